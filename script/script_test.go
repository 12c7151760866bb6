package script_test

import (
	"bytes"
	"encoding/binary"
	"math"
	"reflect"
	"slices"
	"testing"

	"compositor/api"
	"compositor/image"
	"compositor/script"
)

// px returns a pixel.
func px(c0, c1, c2, a, f uint16) api.Pixel {
	return api.Pixel{C: [3]uint16{c0, c1, c2}, A: a, F: f}
}

// some returns n different pixels. Most of them are valid for no maximum.
func some(n int) []api.Pixel {
	l := make([]api.Pixel, n)
	for i := range l {
		v := uint16(i)
		l[i] = px(v, 255+v, 256*v, 65535-v, 0x1234+v)
	}
	return l
}

// of returns the image with the pixels l.
func of(w, h int, l []api.Pixel) api.Image {
	m, _ := image.Of(w, h, l)
	return m
}

// spread returns the image with the pixels l whose planes have gap elements
// between their rows and tail elements after them, a different number for each.
func spread(w, h, gap, tail int, l []api.Pixel) api.Image {
	m := of(w, h, l)
	for k := range m.Planes {
		p := &m.Planes[k]
		stride := w + gap + k
		s := slices.Repeat([]uint16{40000}, (h-1)*stride+w+tail)
		for y := range h {
			copy(s[y*stride:], p.S[y*w:(y+1)*w])
		}
		p.Stride, p.S = stride, s
	}
	return m
}

// grey returns the image of w by h pixels whose samples are all v and whose
// planes share memory.
func grey(w, h int, v uint16) api.Image {
	m := api.Image{W: w, H: h}
	s := slices.Repeat([]uint16{v}, w*h)
	for k := range m.Planes {
		m.Planes[k] = api.Plane{W: w, H: h, Stride: w, S: s}
	}
	return m
}

// full returns a script in which every field has a value, each of its own.
func full() api.Script {
	return api.Script{
		Bits: 16, Canvas: api.Rect{X0: -3, Y0: 4, X1: 0x01020304, Y1: -0x05060708}, TileW: 0x11121314, TileH: 0xf1f2f3f4,
		Order:  []int{2, 0, 0xa1a2a3a4},
		Images: []api.Image{of(2, 3, some(6)), image.Solid(0x123, 0x45, px(1, 0x202, 3, 0xffff, 5)), of(1, 1, []api.Pixel{{}}), image.Solid(1, 1, api.Pixel{})},
		Ops: []api.Op{
			{Kind: 1, Image: 2, X: -5, Y: 6, Mask: 3, MaskX: 0x21222324, MaskY: -0x31323334, Opacity: 0x4142, Operator: 7, Mode: 8, Isolated: true},
			{Kind: 200, Image: 201, X: math.MaxInt32, Y: math.MinInt32, Mask: 202, MaskX: math.MinInt32, MaskY: math.MaxInt32, Opacity: 0xff00, Operator: 203, Mode: 204, Knockout: true},
			{Kind: 3}, {Isolated: true, Knockout: true},
		},
	}
}

// large returns numbers that are in the range of no number of an encoding; the
// low 8, 16 or 32 bits of most are.
func large() []int {
	return []int{1 << 32, 1<<32 + 1, -1 << 32, -1<<32 + 1, 1<<40 + 7, -1<<31 - 1, 1 << 62, -1 << 62, 1<<62 + 3, math.MaxInt, math.MaxInt - 1, math.MinInt, math.MinInt + 1}
}

// written is the definition of the encoding of an encodable script.
func written(s api.Script) []byte {
	put4 := binary.BigEndian.AppendUint32
	put2 := binary.BigEndian.AppendUint16
	b := []byte{'L', 'C', byte(s.Bits)}
	for _, v := range []int{s.Canvas.X0, s.Canvas.Y0, s.Canvas.X1, s.Canvas.Y1, s.TileW, s.TileH, len(s.Order)} {
		b = put4(b, uint32(v))
	}
	for _, v := range s.Order {
		b = put4(b, uint32(v))
	}
	b = append(b, byte(len(s.Images)))
	for _, m := range s.Images {
		flag, l := byte(1), []api.Pixel{m.Color}
		if !m.Solid {
			flag, l = 0, image.Pixels(m)
		}
		b = put4(put4(append(b, flag), uint32(m.W)), uint32(m.H))
		for _, p := range l {
			b = put2(put2(put2(put2(put2(b, p.C[0]), p.C[1]), p.C[2]), p.A), p.F)
		}
	}
	b = put2(b, uint16(len(s.Ops)))
	for _, o := range s.Ops {
		b = put4(put4(append(b, byte(o.Kind), byte(o.Image)), uint32(o.X)), uint32(o.Y))
		b = put4(put4(append(b, byte(o.Mask)), uint32(o.MaskX)), uint32(o.MaskY))
		b = append(put2(b, o.Opacity), byte(o.Operator), byte(o.Mode), 0)
		if o.Isolated {
			b[len(b)-1] |= 1
		}
		if o.Knockout {
			b[len(b)-1] |= 2
		}
	}
	return b
}

// normal returns s with images as Decode is to return them: with planes as those
// of image.Of.
func normal(s api.Script) api.Script {
	s.Images = slices.Clone(s.Images)
	for i, m := range s.Images {
		if !m.Solid {
			s.Images[i] = of(m.W, m.H, image.Pixels(m))
		}
	}
	return s
}

// identical reports whether all fields of s and r, those of the planes of their
// images too, are the same.
func identical(s, r api.Script) bool {
	return s.Bits == r.Bits && s.Canvas == r.Canvas && s.TileW == r.TileW && s.TileH == r.TileH &&
		slices.Equal(s.Order, r.Order) && slices.EqualFunc(s.Images, r.Images, sameForm) && slices.Equal(s.Ops, r.Ops)
}

// copied returns a copy of s that shares nothing with it.
func copied(s api.Script) api.Script {
	s.Order, s.Images, s.Ops = slices.Clone(s.Order), slices.Clone(s.Images), slices.Clone(s.Ops)
	for i := range s.Images {
		for k := range s.Images[i].Planes {
			p := &s.Images[i].Planes[k]
			p.S = slices.Clone(p.S)
		}
	}
	return s
}

// accepted checks that s is encodable, that its encoding is the written one, and
// that decoding it gives s back. It returns the encoding.
func accepted(t *testing.T, what string, s api.Script) []byte {
	t.Helper()
	before := copied(s)
	b, e := script.Encode(s)
	if want := written(s); e != api.OK || !bytes.Equal(b, want) {
		t.Fatalf("P18.1: Encode of %s: error %d, %d bytes; want OK, %d bytes\n%.200x\n%.200x", what, e, len(b), len(want), b, want)
	}
	if !script.Encodable(s) {
		t.Fatalf("P18.1: Encodable of %s: false", what)
	}
	got, e := script.Decode(b)
	if e != api.OK || !identical(got, normal(s)) {
		t.Fatalf("P18.2: Decode of the encoding of %s: error %d, or another script", what, e)
	}
	if !script.Equal(got, s) || !script.Equal(s, got) || !script.Equal(s, s) {
		t.Fatalf("P18.2: Equal of %s and what its encoding decodes to: false", what)
	}
	if !identical(s, before) {
		t.Fatalf("R3: %s has been changed", what)
	}
	return b
}

// sameForm reports whether all fields of m and n, those of their planes too, are
// the same.
func sameForm(m, n api.Image) bool {
	for k, p := range m.Planes {
		q := n.Planes[k]
		if p.W != q.W || p.H != q.H || p.Stride != q.Stride || !slices.Equal(p.S, q.S) {
			return false
		}
	}
	return m.W == n.W && m.H == n.H && m.Solid == n.Solid && m.Color == n.Color
}

// refused checks that s is not encodable.
func refused(t *testing.T, what string, s api.Script) {
	t.Helper()
	b, e := script.Encode(s)
	if e != api.ErrForm || len(b) != 0 {
		t.Errorf("P18.1: Encode of %s: error %d, %d bytes; want %d and none", what, e, len(b), api.ErrForm)
	}
	if script.Encodable(s) {
		t.Errorf("P18.1: Encodable of %s: true; want false", what)
	}
}

// undecodable checks that b is no encoding.
func undecodable(t *testing.T, what string, b []byte) {
	t.Helper()
	if s, e := script.Decode(b); e != api.ErrForm || !reflect.DeepEqual(s, api.Script{}) {
		t.Errorf("P18.2: Decode of %s: error %d, %d images, %d operations; want %d and a zero script", what, e, len(s.Images), len(s.Ops), api.ErrForm)
	}
}

func TestBytesOfAScript(t *testing.T) {
	s := api.Script{
		Bits: 8, Canvas: api.Rect{X0: -1, Y0: -256, X1: 2, Y1: 1 << 20}, TileW: 3, TileH: 0x01020304, Order: []int{1, 0x80000000},
		Images: []api.Image{image.Solid(5, 258, px(1, 2, 3, 4, 0x506)), of(1, 2, []api.Pixel{px(7, 8, 9, 10, 11), px(0x1213, 0, 0, 0xffff, 0)})},
		Ops: []api.Op{
			{Kind: 1, Image: 1, X: -2, Y: 3, Mask: 1, MaskX: 4, MaskY: -5, Opacity: 0x607, Operator: 8, Mode: 9, Isolated: true},
			{Kind: 2, Knockout: true},
		},
	}
	want := []byte{'L', 'C', 8,
		0xff, 0xff, 0xff, 0xff, 0xff, 0xff, 0xff, 0, 0, 0, 0, 2, 0, 0x10, 0, 0, 0, 0, 0, 3, 1, 2, 3, 4,
		0, 0, 0, 2, 0, 0, 0, 1, 0x80, 0, 0, 0,
		2, 1, 0, 0, 0, 5, 0, 0, 1, 2, 0, 1, 0, 2, 0, 3, 0, 4, 5, 6,
		0, 0, 0, 0, 1, 0, 0, 0, 2, 0, 7, 0, 8, 0, 9, 0, 10, 0, 11, 0x12, 0x13, 0, 0, 0, 0, 0xff, 0xff, 0, 0,
		0, 2,
		1, 1, 0xff, 0xff, 0xff, 0xfe, 0, 0, 0, 3, 1, 0, 0, 0, 4, 0xff, 0xff, 0xff, 0xfb, 6, 7, 8, 9, 1,
		2, 0, 0, 0, 0, 0, 0, 0, 0, 0, 0, 0, 0, 0, 0, 0, 0, 0, 0, 0, 0, 0, 0, 2}
	if got := accepted(t, "a script", s); !bytes.Equal(got, want) {
		t.Errorf("P18.1: Encode: %x; want %x", got, want)
	}
}

func TestScriptsWithoutSomething(t *testing.T) {
	empty := accepted(t, "an empty script", api.Script{})
	if want := append([]byte("LC"), make([]byte, 32)...); !bytes.Equal(empty, want) {
		t.Errorf("P18.1: Encode of an empty script: %x; want %x", empty, want)
	}
	accepted(t, "a script with empty slices", api.Script{Order: []int{}, Images: []api.Image{}, Ops: []api.Op{}})
	accepted(t, "a full script", full())
	for what, change := range map[string]func(s *api.Script){
		"a script without an order":      func(s *api.Script) { s.Order = nil },
		"a script without images":        func(s *api.Script) { s.Images = nil },
		"a script without operations":    func(s *api.Script) { s.Ops = nil },
		"a script with solid images":     func(s *api.Script) { s.Images = s.Images[1:2] },
		"a script with images of pixels": func(s *api.Script) { s.Images = s.Images[:1] },
	} {
		s := full()
		change(&s)
		accepted(t, what, s)
	}
}

// slot is a number of a script and the least and the greatest that its bytes can
// have.
type slot struct {
	what     string
	at       func(s *api.Script) *int
	min, max int
}

// slots returns all numbers of full that need not be in their ranges.
func slots() []slot {
	const m8, m32 = math.MaxUint8, math.MaxUint32
	l := []slot{
		{"Bits", func(s *api.Script) *int { return &s.Bits }, 0, m8},
		{"Canvas.X0", func(s *api.Script) *int { return &s.Canvas.X0 }, math.MinInt32, math.MaxInt32},
		{"Canvas.Y0", func(s *api.Script) *int { return &s.Canvas.Y0 }, math.MinInt32, math.MaxInt32},
		{"Canvas.X1", func(s *api.Script) *int { return &s.Canvas.X1 }, math.MinInt32, math.MaxInt32},
		{"Canvas.Y1", func(s *api.Script) *int { return &s.Canvas.Y1 }, math.MinInt32, math.MaxInt32},
		{"TileW", func(s *api.Script) *int { return &s.TileW }, 0, m32},
		{"TileH", func(s *api.Script) *int { return &s.TileH }, 0, m32},
	}
	for i := range full().Order {
		l = append(l, slot{"Order", func(s *api.Script) *int { return &s.Order[i] }, 0, m32})
	}
	for i := range full().Ops {
		l = append(l,
			slot{"Kind", func(s *api.Script) *int { return &s.Ops[i].Kind }, 0, m8},
			slot{"Image", func(s *api.Script) *int { return &s.Ops[i].Image }, 0, m8},
			slot{"X", func(s *api.Script) *int { return &s.Ops[i].X }, math.MinInt32, math.MaxInt32},
			slot{"Y", func(s *api.Script) *int { return &s.Ops[i].Y }, math.MinInt32, math.MaxInt32},
			slot{"Mask", func(s *api.Script) *int { return &s.Ops[i].Mask }, 0, m8},
			slot{"MaskX", func(s *api.Script) *int { return &s.Ops[i].MaskX }, math.MinInt32, math.MaxInt32},
			slot{"MaskY", func(s *api.Script) *int { return &s.Ops[i].MaskY }, math.MinInt32, math.MaxInt32},
			slot{"Operator", func(s *api.Script) *int { return &s.Ops[i].Operator }, 0, m8},
			slot{"Mode", func(s *api.Script) *int { return &s.Ops[i].Mode }, 0, m8})
	}
	return l
}

func TestRangesOfNumbers(t *testing.T) {
	for _, x := range slots() {
		for _, v := range append(large(), x.min-1, x.max+1, x.min, x.max, 0, 1, -1, 127, 128, 255, 256, 32767, 32768, 65535, 65536, math.MaxInt32, math.MinInt32, math.MaxInt32+1, math.MaxUint32) {
			s := full()
			*x.at(&s) = v
			if x.min <= v && v <= x.max {
				accepted(t, x.what, s)
			} else {
				refused(t, x.what, s)
			}
		}
	}
	for _, v := range []uint16{0, 1, 255, 256, 32767, 32768, 65535} {
		s := full()
		s.Ops[1].Opacity = v
		accepted(t, "an opacity", s)
	}
	for i := range 4 {
		s := full()
		s.Ops[0].Isolated, s.Ops[0].Knockout = i&1 != 0, i&2 != 0
		accepted(t, "flags", s)
	}
}

// malformed returns images that are not well-formed.
func malformed() []api.Image {
	const top = api.MaxPixels
	l := []api.Image{{}, {W: 1, H: 1}, {W: top, H: 1}}
	for _, x := range append(large(), 0, -1, top+1, math.MaxInt32, math.MaxUint32) {
		l = append(l, image.Solid(x, 1, px(1, 1, 1, 1, 1)), image.Solid(1, x, px(1, 1, 1, 1, 1)), image.Solid(x, x, api.Pixel{}))
	}
	l = append(l, image.Solid(top/2+1, 2, api.Pixel{}), image.Solid(1<<32, 1<<32, api.Pixel{}), image.Solid(1<<16, 1<<16, api.Pixel{}), image.Solid(-2, -2, api.Pixel{}))
	for k := range 5 {
		for _, change := range []func(m *api.Image){
			func(m *api.Image) { m.Planes[k] = api.Plane{} },
			func(m *api.Image) { m.Planes[k].W = 1 },
			func(m *api.Image) { m.Planes[k].H = 3 },
			func(m *api.Image) { m.Planes[k].Stride = 1 },
			func(m *api.Image) { m.Planes[k].S = m.Planes[k].S[:3] },
		} {
			m := of(2, 2, some(4))
			change(&m)
			l = append(l, m)
		}
		m := image.Solid(2, 2, px(1, 1, 1, 1, 1))
		m.Planes[k].S = []uint16{0}
		n := image.Solid(2, 2, px(1, 1, 1, 1, 1))
		n.Planes[k].Stride = 1
		l = append(l, m, n)
	}
	colored := of(2, 2, some(4))
	colored.Color.F = 1
	both := of(2, 2, some(4))
	both.Solid = true
	neither := image.Solid(2, 2, px(1, 1, 1, 1, 1))
	neither.Solid = false
	return append(l, colored, both, neither)
}

func TestImages(t *testing.T) {
	for _, m := range malformed() {
		for i := range full().Images {
			s := full()
			s.Images[i] = m
			refused(t, "an image that is not well-formed", s)
		}
		refused(t, "an image that is not well-formed, alone", api.Script{Images: []api.Image{m}})
	}
	l := some(12)
	shared := grey(2, 2, 7)
	shared.Planes[1] = api.Plane{W: 2, H: 2, Stride: 1 << 20, S: make([]uint16, 1<<20+2)}
	for _, m := range []api.Image{
		of(1, 1, l[:1]), of(1, 12, l), of(12, 1, l), of(3, 4, l), of(4, 3, l), spread(3, 4, 0, 0, l), spread(4, 3, 5, 0, l), spread(2, 6, 1, 9, l), grey(5, 2, 0), grey(3, 2, 65535), shared,
		image.Solid(1, 1, api.Pixel{}), image.Solid(api.MaxPixels, 1, l[3]), image.Solid(1, api.MaxPixels, l[4]), image.Solid(1<<12, 1<<12, l[5]), image.Solid(256, 257, px(65535, 65535, 65535, 0, 0)),
	} {
		accepted(t, "an image", api.Script{Images: []api.Image{m}})
		accepted(t, "an image among others", api.Script{Images: append(full().Images, m, m)})
	}
	solid := image.Solid(2, 3, l[2])
	for k := range solid.Planes {
		solid.Planes[k].S = make([]uint16, 0, 9)
	}
	if b, e := script.Encode(api.Script{Images: []api.Image{solid}}); e != api.OK || !bytes.Equal(b, written(api.Script{Images: []api.Image{solid}})) {
		t.Errorf("R3: Encode of a solid image with empty slices that are not nil: error %d, %x", e, b)
	}
}

func TestNumbersOfImagesAndOperations(t *testing.T) {
	for n := range 70 {
		s := full()
		s.Images = slices.Repeat([]api.Image{image.Solid(3, 4, px(1, 2, 3, 4, 5))}, n)
		if n <= api.MaxImages {
			accepted(t, "images", s)
		} else {
			refused(t, "too many images", s)
			undecodable(t, "too many images", written(s))
		}
	}
	for _, n := range []int{0, 1, 255, 256, 257, api.MaxOps - 1, api.MaxOps, api.MaxOps + 1, 65535, 65536, 65537, 1 << 20} {
		s := full()
		s.Ops = slices.Repeat(s.Ops[:1], n)
		if n <= api.MaxOps {
			accepted(t, "operations", s)
		} else {
			refused(t, "too many operations", s)
			undecodable(t, "too many operations", written(s))
		}
	}
	refused(t, "256 images", api.Script{Images: slices.Repeat([]api.Image{image.Solid(1, 1, api.Pixel{})}, 256)})
	refused(t, "257 images", api.Script{Images: slices.Repeat([]api.Image{image.Solid(1, 1, api.Pixel{})}, 257)})
}

func TestGreatestOrders(t *testing.T) {
	// 34 bytes, two solid images of 19 and the order.
	const most = (api.MaxBytes - 72) / 4
	s := api.Script{Images: []api.Image{image.Solid(1, 1, px(1, 2, 3, 4, 5)), image.Solid(2, 1, px(1, 2, 3, 4, 5))}, Order: make([]int, most+1)}
	s.Order[most] = 9
	refused(t, "an order that is one element too long", s)
	undecodable(t, "an order that is one element too long", written(s))
	s.Order = s.Order[:most]
	s.Order[most-1] = 7
	if b := accepted(t, "the longest order", s); len(b) != api.MaxBytes {
		t.Errorf("P18.1: the encoding with the longest order has %d bytes; want %d", len(b), api.MaxBytes)
	}
	s.Ops = make([]api.Op, 1)
	refused(t, "an operation too many", s)
	s.Order = s.Order[6:]
	accepted(t, "an operation instead of six elements of the order", s)
	s.Images = append(s.Images, s.Images[0])
	refused(t, "an image too many", s)
}

func TestGreatestImages(t *testing.T) {
	// 34 bytes, nine solid images of 19 and one of 9 and its pixels.
	const most = (api.MaxBytes - 34 - 9*19 - 9) / 10
	solid := image.Solid(1, 1, px(1, 2, 3, 4, 5))
	s := api.Script{Images: append(slices.Repeat([]api.Image{solid}, 9), grey(most, 1, 3))}
	if b := accepted(t, "the greatest image", s); len(b) != api.MaxBytes {
		t.Errorf("P18.1: the encoding with the greatest image has %d bytes; want %d", len(b), api.MaxBytes)
	}
	s.Images[9] = grey(1, most+1, 3)
	refused(t, "a pixel too many", s)
	undecodable(t, "a pixel too many", written(s))
	s.Images = s.Images[1:]
	if b, e := script.Encode(s); e != api.OK || len(b) != api.MaxBytes-9 || !script.Encodable(s) {
		t.Errorf("P18.1: Encode of a pixel more and an image less: error %d, %d bytes; want %d", e, len(b), api.MaxBytes-9)
	}
}

func TestImagesOfMiddleSize(t *testing.T) {
	// Each of these has fewer than MaxBytes bytes, 52 of them have more.
	l := slices.Repeat([]api.Image{grey(1<<17, 1, 0)}, api.MaxImages)
	for n := 48; n <= len(l); n++ {
		s := api.Script{Images: l[:n]}
		if want := 34+n*(9+10<<17) <= api.MaxBytes; script.Encodable(s) != want || want != (n <= 51) {
			t.Errorf("P18.1: Encodable with %d images of 2^17 pixels: %v; want %v", n, !want, want)
		}
	}
	refused(t, "an image of middle size too many", api.Script{Images: l[:52]})
	refused(t, "images of MaxPixels pixels", api.Script{Images: slices.Repeat([]api.Image{grey(1<<12, 1<<12, 0)}, api.MaxImages)})
}

func TestResultsOfEncodeAreNew(t *testing.T) {
	s := full()
	first, _ := script.Encode(s)
	first = append(first, 1, 2, 3)
	clear(first)
	if b, _ := script.Encode(s); !bytes.Equal(b, written(full())) {
		t.Errorf("R3: a write to the result of Encode changes the next one")
	}
	if !reflect.DeepEqual(s, full()) {
		t.Errorf("R3: a write to the result of Encode changes its argument")
	}
}

func TestRoomAfterTheElements(t *testing.T) {
	s, room := full(), full()
	room.Order = append(room.Order, -1)[:len(s.Order)]
	room.Images = append(room.Images, api.Image{})[:len(s.Images)]
	room.Ops = append(room.Ops, api.Op{Kind: -1})[:len(s.Ops)]
	if b, e := script.Encode(room); e != api.OK || !bytes.Equal(b, written(s)) || !script.Equal(s, room) {
		t.Errorf("R3: what is after the elements of a slice counts: error %d, %x", e, b)
	}
	b := append(written(s), 1, 2, 3)
	before := bytes.Clone(b)
	if got, e := script.Decode(b[:len(b)-3]); e != api.OK || !script.Equal(got, s) || !bytes.Equal(b, before) {
		t.Errorf("R3: Decode of bytes with room after them: error %d", e)
	}
}

func TestDecodeOfEveryBeginning(t *testing.T) {
	for _, s := range []api.Script{{}, full(), {Order: []int{0, 0, 0}}, {Images: make([]api.Image, 0), Ops: make([]api.Op, 2)}} {
		b := accepted(t, "a script", s)
		for i := range b {
			undecodable(t, "too few bytes", b[:i])
			undecodable(t, "too few bytes without room", bytes.Clone(b[:i]))
		}
		for _, more := range [][]byte{{0}, {1}, {0, 0, 0, 0}, make([]byte, 24), b} {
			undecodable(t, "too many bytes", slices.Concat(b, more))
		}
	}
	undecodable(t, "no bytes", nil)
	undecodable(t, "no bytes", []byte{})
}

// places are where the parts of the encoding of full begin.
const (
	orderAt  = 27
	imagesAt = orderAt + 4 + 3*4
	pixelsAt = imagesAt + 1
	solidAt  = pixelsAt + 9 + 60
	clearAt  = solidAt + 19
	lastAt   = clearAt + 19
	countAt  = lastAt + 19
	opsAt    = countAt + 2
)

// free reports whether the byte i of the encoding of full can have any value.
func free(i int) bool {
	switch {
	case i >= opsAt:
		return (i-opsAt)%24 != 23
	case i >= countAt:
		return false
	case i >= lastAt:
		return i >= lastAt+9
	case i >= clearAt:
		return i >= clearAt+9
	case i >= solidAt:
		return i >= solidAt+9
	case i >= imagesAt:
		return i >= pixelsAt+9
	case i >= orderAt:
		return i >= orderAt+4
	}
	return i >= 2
}

// TestEveryChangeOfAByte checks that each change of a byte where all values are
// numbers is decoded to another script, and that every script that is decoded has
// the bytes as its encoding.
func TestEveryChangeOfAByte(t *testing.T) {
	b := written(full())
	for i := range b {
		for v := range 256 {
			c := bytes.Clone(b)
			c[i] = byte(v)
			s, e := script.Decode(c)
			if e == api.OK {
				if back := written(s); !bytes.Equal(back, c) || script.Equal(s, full()) != bytes.Equal(b, c) {
					t.Fatalf("P18.2: Decode of %x: %v, whose encoding is %x", c, s, back)
				}
				continue
			}
			if free(i) || e != api.ErrForm || !reflect.DeepEqual(s, api.Script{}) {
				t.Fatalf("P18.2: Decode with the byte %d as %d: error %d, %v", i, v, e, s)
			}
		}
	}
}

func TestBytesOfNoScript(t *testing.T) {
	b := written(full())
	for _, x := range []struct {
		what string
		at   int
		l    []byte
	}{
		{"another beginning", 0, []byte("lc")}, {"another beginning", 0, []byte("CL")}, {"another beginning", 0, []byte{0}}, {"another beginning", 1, []byte{0}},
		{"a longer order", orderAt, []byte{0, 0, 0, 4}}, {"an order without an end", orderAt, []byte{0xff, 0xff, 0xff, 0xff}}, {"an order of 2^30 elements", orderAt, []byte{0x40, 0, 0, 0}}, {"an order of 2^30 + 3 elements", orderAt, []byte{0x40, 0, 0, 3}}, {"an order of 2^31 elements", orderAt, []byte{0x80, 0, 0, 3}},
		{"65 images", imagesAt, []byte{65}}, {"255 images", imagesAt, []byte{255}}, {"five images", imagesAt, []byte{5}}, {"three images", imagesAt, []byte{3}},
		{"the flag 2 of a solid image", solidAt, []byte{2}}, {"the flag 255 of a solid image", solidAt, []byte{255}}, {"the flag 3 of an image of pixels", pixelsAt, []byte{3}}, {"the flag 2 of an image of one pixel", clearAt, []byte{2}},
		{"no width", solidAt + 1, []byte{0, 0, 0, 0}}, {"no height", solidAt + 5, []byte{0, 0, 0, 0}}, {"no width", clearAt + 1, []byte{0, 0, 0, 0}}, {"no height", pixelsAt + 5, []byte{0, 0, 0, 0}},
		{"a solid image of 2^24 + 1 pixels", solidAt + 1, []byte{1, 0, 0, 1, 0, 0, 0, 1}}, {"a solid image of 2^32 pixels", solidAt + 1, []byte{0, 1, 0, 0, 0, 1, 0, 0}}, {"the greatest solid image", solidAt + 1, slices.Repeat([]byte{255}, 8)}, {"a solid image of negative sides", lastAt + 1, []byte{255, 255, 255, 255, 255, 255, 255, 254}},
		{"2^32 pixels", clearAt + 1, []byte{0, 1, 0, 0, 0, 1, 0, 0}}, {"2^62 pixels", clearAt + 1, []byte{0x80, 0, 0, 0, 0x80, 0, 0, 0}}, {"almost 2^64 pixels", clearAt + 1, slices.Repeat([]byte{255}, 8)}, {"2^33 + 1 pixels", clearAt + 1, []byte{0, 0, 0, 3, 0xaa, 0xaa, 0xaa, 0xab}}, {"2^24 pixels", clearAt + 1, []byte{0, 0, 16, 0, 0, 0, 16, 0}}, {"2^24 + 2 pixels", clearAt + 1, []byte{0, 0, 0, 2, 0, 0x80, 0, 1}},
		{"seven pixels", pixelsAt + 1, []byte{0, 0, 0, 1, 0, 0, 0, 7}}, {"five pixels", pixelsAt + 1, []byte{0, 0, 0, 5, 0, 0, 0, 1}},
		{"five operations", countAt, []byte{0, 5}}, {"three operations", countAt, []byte{0, 3}}, {"no operations", countAt, []byte{0, 0}}, {"4097 operations", countAt, []byte{0x10, 1}}, {"65535 operations", countAt, []byte{255, 255}},
		{"flags of 4", opsAt + 23, []byte{4}}, {"flags of 255", opsAt + 23, []byte{255}}, {"flags of 7", len(b) - 1, []byte{7}}, {"flags of 128", len(b) - 1, []byte{128}},
	} {
		c := bytes.Clone(b)
		copy(c[x.at:], x.l)
		undecodable(t, x.what, c)
	}
	// What is counted is there, but not permitted.
	for _, size := range [][2]uint32{{0, 0}, {0, 5}, {5, 0}, {1 << 24, 2}, {1<<24 + 1, 1}, {1 << 31, 1 << 31}, {1 << 16, 1 << 16}} {
		for _, flag := range []byte{0, 1} {
			c := binary.BigEndian.AppendUint32(append(make([]byte, 0, 100), append(written(api.Script{})[:31], 1, flag)...), size[0])
			c = binary.BigEndian.AppendUint32(c, size[1])
			undecodable(t, "an image of a size that is not permitted", append(c, 0, 0))
			undecodable(t, "an image of a size that is not permitted and a pixel", append(c, make([]byte, 12)...))
		}
	}
}

// TestManyChanges changes several bytes at once, the same ones in every run.
func TestManyChanges(t *testing.T) {
	b := written(full())
	state, decoded := uint64(1), 0
	next := func(n int) int {
		state = state*6364136223846793005 + 1442695040888963407
		return int(state>>33) % n
	}
	for range 200000 {
		c := bytes.Clone(b)
		for range 1 + next(3) {
			c[next(len(c))] = byte([]int{next(256), 0, 1, 2, 255}[next(5)])
		}
		if next(4) == 0 {
			c = slices.Concat(c[:next(len(c))], c[next(len(c)):])
		}
		s, e := script.Decode(c)
		switch {
		case e == api.OK && bytes.Equal(written(s), c):
			decoded++
		case e != api.ErrForm || !reflect.DeepEqual(s, api.Script{}):
			t.Fatalf("P18.2: Decode(%x): error %d, %v", c, e, s)
		}
	}
	if decoded < 1000 {
		t.Errorf("only %d of the changed encodings have been decoded", decoded)
	}
}

func TestResultsOfDecodeAreNew(t *testing.T) {
	b := written(full())
	kept, _ := script.Decode(b)
	first, _ := script.Decode(b)
	_ = append(first.Order, 9)
	clear(first.Order)
	clear(first.Ops)
	for i, m := range first.Images {
		for k, p := range m.Planes {
			for j := range p.S {
				p.S[j] = uint16(100*i + k)
			}
		}
		for k, p := range m.Planes {
			if slices.ContainsFunc(p.S, func(v uint16) bool { return v != uint16(100*i+k) }) {
				t.Errorf("R3: planes of a decoded image share memory")
			}
		}
	}
	if !bytes.Equal(b, written(full())) {
		t.Errorf("R3: Decode, or a write to its result, changes its argument")
	}
	clear(b)
	if !script.Equal(kept, full()) {
		t.Errorf("R3: a write to the argument of Decode, or to another result, changes its result")
	}
}

// variants returns scripts of which no two are equal; all their images are
// well-formed.
func variants() []api.Script {
	l := []api.Script{{}, full()}
	add := func(change func(s *api.Script)) {
		s := full()
		change(&s)
		l = append(l, s)
	}
	for _, x := range slots() {
		add(func(s *api.Script) { *x.at(s)++ })
		add(func(s *api.Script) { *x.at(s) += 1 << 32 })
	}
	for i := range full().Ops {
		add(func(s *api.Script) { s.Ops[i].Opacity++ })
		add(func(s *api.Script) { s.Ops[i].Isolated = !s.Ops[i].Isolated })
		add(func(s *api.Script) { s.Ops[i].Knockout = !s.Ops[i].Knockout })
		add(func(s *api.Script) { s.Ops = slices.Delete(s.Ops, i, i+1) })
	}
	for i := range full().Order {
		add(func(s *api.Script) { s.Order = slices.Delete(s.Order, i, i+1) })
	}
	add(func(s *api.Script) { s.Order = nil })
	add(func(s *api.Script) { s.Order = append(s.Order, 0) })
	add(func(s *api.Script) { s.Order[0], s.Order[1] = s.Order[1], s.Order[0] })
	add(func(s *api.Script) { s.Ops = nil })
	add(func(s *api.Script) { s.Ops = append(s.Ops, api.Op{}) })
	add(func(s *api.Script) { s.Ops[2], s.Ops[3] = s.Ops[3], s.Ops[2] })
	add(func(s *api.Script) { s.Images = nil })
	add(func(s *api.Script) { s.Images = append(s.Images, s.Images[0]) })
	add(func(s *api.Script) { s.Images[0], s.Images[1] = s.Images[1], s.Images[0] })
	for i := range full().Images {
		add(func(s *api.Script) { s.Images = slices.Delete(s.Images, i, i+1) })
		add(func(s *api.Script) { s.Images[i] = of(3, 2, some(6)) })
		add(func(s *api.Script) { s.Images[i] = image.Solid(2, 3, px(9, 9, 9, 9, 9)) })
	}
	for _, i := range []int{1, 3} {
		for _, change := range []func(m *api.Image){
			func(m *api.Image) { m.W++ }, func(m *api.Image) { m.H++ }, func(m *api.Image) { m.Color.C[0]++ }, func(m *api.Image) { m.Color.C[1]++ }, func(m *api.Image) { m.Color.C[2]++ }, func(m *api.Image) { m.Color.A++ }, func(m *api.Image) { m.Color.F++ },
			func(m *api.Image) { *m = of(m.W, m.H, image.Pixels(*m)) },
		} {
			add(func(s *api.Script) { change(&s.Images[i]) })
		}
	}
	for k := range 5 {
		for j := range 6 {
			add(func(s *api.Script) { s.Images[0].Planes[k].S[j]++ })
		}
	}
	add(func(s *api.Script) { s.Images[2] = image.Solid(1, 1, api.Pixel{}) })
	return l
}

func TestEqual(t *testing.T) {
	l := variants()
	for i, s := range l {
		before := copied(s)
		for j, r := range l {
			if got := script.Equal(s, r); got != (i == j) {
				t.Errorf("P18.2: Equal of the scripts %d and %d: %v", i, j, got)
			}
		}
		if other := copied(s); !script.Equal(s, other) || !script.Equal(other, s) {
			t.Errorf("P18.2: Equal of the script %d and a copy of it: false", i)
		}
		if !reflect.DeepEqual(s, before) {
			t.Errorf("R3: Equal has changed its argument")
		}
	}
}

func TestEqualOfForms(t *testing.T) {
	if !script.Equal(api.Script{Order: []int{}, Images: []api.Image{}, Ops: []api.Op{}}, api.Script{}) || !script.Equal(api.Script{}, api.Script{Order: make([]int, 0, 9), Ops: []api.Op{}}) {
		t.Errorf("R3: Equal tells nil slices from empty ones")
	}
	for _, m := range []api.Image{spread(2, 3, 0, 0, some(6)), spread(2, 3, 4, 5, some(6))} {
		s := full()
		s.Images[0] = m
		if !script.Equal(s, full()) || !script.Equal(full(), s) {
			t.Errorf("P18.2: Equal looks at what is not in the pixels of an image")
		}
		m.Planes[2].S[1]++
		if script.Equal(s, full()) || script.Equal(full(), s) {
			t.Errorf("P18.2: Equal does not look at the pixels of an image with a stride")
		}
	}
	// image.Equal is false for images that are not well-formed.
	for i, m := range malformed() {
		s := full()
		s.Images[1] = m
		if script.Equal(s, s) || script.Equal(s, copied(s)) || script.Equal(s, full()) || script.Equal(full(), s) {
			t.Errorf("P18.2: Equal of scripts with the image %d, which is not well-formed: true; want false", i)
		}
	}
	// Numbers need not be encodable.
	s, r := full(), full()
	s.Bits, r.Bits = math.MinInt, math.MinInt
	s.Ops[0].X, r.Ops[0].X = math.MaxInt, math.MaxInt
	if !script.Equal(s, r) {
		t.Errorf("P18.2: Equal of scripts that are not encodable: false")
	}
}
