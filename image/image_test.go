package image_test

import (
	"math"
	"math/big"
	"slices"
	"testing"

	"compositor/api"
	"compositor/image"
	"compositor/sample"
)

// top is the greatest number of pixels of an image.
const top = api.MaxPixels

// px returns a pixel.
func px(c0, c1, c2, a, f uint16) api.Pixel {
	return api.Pixel{C: [3]uint16{c0, c1, c2}, A: a, F: f}
}

// some returns n different pixels that are valid for 255.
func some(n int) []api.Pixel {
	l := make([]api.Pixel, n)
	for i := range l {
		v := uint16(i % 100)
		l[i] = px(v, v+1, v+2, v+3, v+100)
	}
	return l
}

// put sets a sample of p: a colour, its alpha or its shape.
func put(p api.Pixel, k int, v uint16) api.Pixel {
	switch k {
	case 3:
		p.A = v
	case 4:
		p.F = v
	default:
		p.C[k] = v
	}
	return p
}

// get returns a sample of p.
func get(p api.Pixel, k int) uint16 {
	return [5]uint16{p.C[0], p.C[1], p.C[2], p.A, p.F}[k]
}

// laid returns the image of the pixels l with planes that have gap elements
// between their rows, a different number for each plane if fan is true, and tail
// elements after them. What is between, and the room after the elements, has
// samples that no pixel has.
func laid(w, h, gap, tail int, fan bool, l []api.Pixel) api.Image {
	m := api.Image{W: w, H: h}
	for k := range m.Planes {
		stride := w + gap
		if fan {
			stride += k
		}
		n := (h-1)*stride + w + tail
		s := make([]uint16, n+7)
		for i := range s {
			s[i] = 60000 + uint16(i)
		}
		for i, p := range l {
			s[i/w*stride+i%w] = get(p, k)
		}
		m.Planes[k] = api.Plane{W: w, H: h, Stride: stride, S: s[:n]}
	}
	return m
}

// layouts returns images with the pixels l that differ in their planes only.
func layouts(w, h int, l []api.Pixel) []api.Image {
	return []api.Image{laid(w, h, 0, 0, false, l), laid(w, h, 3, 0, false, l), laid(w, h, 0, 5, true, l), laid(w, h, 1, 2, true, l)}
}

// common returns an image of 2 by 2 grey pixels whose planes share memory, and
// its pixels.
func common() (api.Image, []api.Pixel) {
	s := []uint16{1, 2, 60000, 3, 4, 5, 6, 7}
	m := api.Image{W: 2, H: 2}
	for k := range m.Planes {
		m.Planes[k] = api.Plane{W: 2, H: 2, Stride: 3, S: s}
	}
	m.Planes[3] = api.Plane{W: 2, H: 2, Stride: 2, S: s[3:]}
	m.Planes[4] = api.Plane{W: 2, H: 2, Stride: 2, S: s[4:]}
	return m, []api.Pixel{px(1, 1, 1, 3, 4), px(2, 2, 2, 4, 5), px(3, 3, 3, 5, 6), px(4, 4, 4, 6, 7)}
}

// sizes returns the small sizes.
func sizes() [][2]int {
	var l [][2]int
	for w := 1; w <= 4; w++ {
		for h := 1; h <= 4; h++ {
			l = append(l, [2]int{w, h})
		}
	}
	return l
}

// far returns numbers that are no W or H of an image; the low 32 bits of some
// are.
func far() []int {
	return []int{0, -1, -2, -top, top + 1, 1 << 31, -1 << 31, 1<<32 - 1, 1 << 32, 1<<32 + 1, -1<<32 + 1, 1 << 62, 1<<62 + 1, -1 << 62, math.MaxInt, math.MinInt}
}

// sized reports whether an image can have this size. It is the definition.
func sized(w, h int) bool {
	n := new(big.Int).Mul(big.NewInt(int64(w)), big.NewInt(int64(h)))
	return w >= 1 && h >= 1 && n.Cmp(big.NewInt(top)) <= 0
}

// badSizes returns images whose only fault is their size, or that have others
// beside it.
func badSizes() []api.Image {
	l := []api.Image{{}, {W: 0, H: 1}, {W: 1, H: 0}, {H: 2, Color: px(1, 0, 0, 0, 0)}}
	c := px(9, 0, 0, 1, 2)
	for _, x := range far() {
		l = append(l, image.Solid(x, 1, c), image.Solid(1, x, c), image.Solid(x, x, c))
		m := laid(1, 1, 0, 0, false, some(1))
		m.W = x
		n := laid(1, 1, 0, 0, false, some(1))
		n.H = x
		l = append(l, m, n)
	}
	l = append(l, image.Solid(1<<12, 1<<12+1, c), image.Solid(1<<12+1, 1<<12, c), image.Solid(top, 2, c), image.Solid(2, top, c), image.Solid(1<<32, 1<<32, c))
	return append(l, image.Solid(top/2+1, 2, c), image.Solid(3, top/3+1, c), image.Solid(-2, -2, c), image.Solid(-1, -1, c))
}

// badPlanes returns images of a permitted size that are not well-formed. Most
// break one condition only; the color of some is not valid either.
func badPlanes() []api.Image {
	l := []api.Image{{W: 1, H: 1}, {W: top, H: 1}}
	for k := range 5 {
		for _, change := range []func(m *api.Image){
			func(m *api.Image) { m.Planes[k] = api.Plane{} },
			func(m *api.Image) { m.Planes[k].W = 1 },
			func(m *api.Image) { m.Planes[k].W = 3 },
			func(m *api.Image) { m.Planes[k].H = 1 },
			func(m *api.Image) { m.Planes[k].H = 3 },
			func(m *api.Image) { m.Planes[k].Stride = 1 },
			func(m *api.Image) { m.Planes[k].Stride = 1 << 62 },
			func(m *api.Image) { m.Planes[k].Stride = -1 },
			func(m *api.Image) { m.Planes[k].S = m.Planes[k].S[:6] },
			func(m *api.Image) { m.Planes[k].S = nil },
			func(m *api.Image) { m.Color = put(m.Color, k, 1) },
		} {
			m := laid(2, 2, 3, 9, false, some(4))
			change(&m)
			l = append(l, m)
		}
		for _, p := range []api.Plane{{W: 1}, {H: 1}, {Stride: 1}, {S: []uint16{0}}, {W: 2, H: 2, Stride: 2, S: []uint16{1, 2, 3, 4}}} {
			m := image.Solid(2, 2, px(9, 0, 0, 1, 2))
			m.Planes[k] = p
			l = append(l, m)
		}
	}
	m := laid(2, 2, 0, 0, false, some(4))
	m.Solid = true
	n := image.Solid(2, 2, px(1, 2, 3, 4, 5))
	n.Solid = false
	return append(l, m, n)
}

// kept returns a copy of m with all that its slices have room for.
func kept(m api.Image) api.Image {
	for k := range m.Planes {
		s := m.Planes[k].S
		m.Planes[k].S = slices.Clone(s[:cap(s)])
	}
	return m
}

// same reports whether all fields of m and n are the same.
func same(m, n api.Image) bool {
	for k, p := range m.Planes {
		q := n.Planes[k]
		if p.W != q.W || p.H != q.H || p.Stride != q.Stride || !slices.Equal(p.S, q.S) {
			return false
		}
	}
	return m.W == n.W && m.H == n.H && m.Solid == n.Solid && m.Color == n.Color
}

// unchanged checks that m and the room in its planes are as in before.
func unchanged(t *testing.T, what string, m, before api.Image) {
	t.Helper()
	for k := range m.Planes {
		s := m.Planes[k].S
		m.Planes[k].S = s[:cap(s)]
	}
	if !same(m, before) {
		t.Fatalf("R3: %s has changed its argument to %v; before %v", what, m, before)
	}
}

// checkOwn checks that m has the form that Of gives it, with just the pixels l,
// and that its planes share no memory. It writes to all of them.
func checkOwn(t *testing.T, what string, m api.Image, w, h int, l []api.Pixel) {
	t.Helper()
	if want := laid(w, h, 0, 0, false, l); !same(m, want) {
		t.Fatalf("%s: %v; want %v", what, m, want)
	}
	for k, p := range m.Planes {
		for i := range p.S {
			p.S[i] = uint16(k)
		}
		_ = append(p.S, 9, 9)
	}
	for k, p := range m.Planes {
		if slices.ContainsFunc(p.S, func(v uint16) bool { return v != uint16(k) }) {
			t.Fatalf("R3: %s: planes of the result share memory: %v", what, m)
		}
	}
}

func TestValidOfSizes(t *testing.T) {
	for w := -2; w <= 4; w++ {
		for h := -2; h <= 4; h++ {
			want := api.ErrSize
			if sized(w, h) {
				want = api.OK
			}
			if got := image.Valid(image.Solid(w, h, px(1, 2, 3, 4, 5)), 5); got != want {
				t.Errorf("P15.1: Valid of a solid image of %d by %d: %d; want %d", w, h, got, want)
			}
		}
	}
	l := append(far(), 1, 2, 3, 255, 4095, 4096, 4097, 1<<16, top/2, top/2+1, top-1, top)
	for _, w := range l {
		for _, h := range l {
			want := api.ErrSize
			if sized(w, h) {
				want = api.OK
			}
			if got := image.Valid(image.Solid(w, h, px(1, 2, 3, 4, 5)), 255); got != want {
				t.Errorf("P15.1: Valid of a solid image of %d by %d: %d; want %d", w, h, got, want)
			}
		}
	}
}

func TestValidOfForms(t *testing.T) {
	for i, m := range badSizes() {
		for _, max := range []uint16{0, 1, 255, 65535} {
			if got := image.Valid(m, max); got != api.ErrSize {
				t.Errorf("P15.1: Valid of the image %d with a bad size, %d: %d; want %d", i, max, got, api.ErrSize)
			}
		}
	}
	for i, m := range badPlanes() {
		before := kept(m)
		for _, max := range []uint16{0, 1, 255, 65535} {
			if got := image.Valid(m, max); got != api.ErrPlane {
				t.Errorf("P15.1: Valid of the image %d with a bad plane, %d: %d; want %d", i, max, got, api.ErrPlane)
			}
		}
		unchanged(t, "Valid", m, before)
	}
	for _, s := range sizes() {
		l := some(s[0] * s[1])
		for _, m := range layouts(s[0], s[1], l) {
			before := kept(m)
			if got := image.Valid(m, 255); got != api.OK {
				t.Errorf("P15.1: Valid(%v, 255): %d; want 0", m, got)
			}
			unchanged(t, "Valid", m, before)
		}
	}
	m := image.Solid(2, 3, px(0, 0, 0, 0, 0))
	for k := range m.Planes {
		m.Planes[k].S = make([]uint16, 0, 9)
	}
	if got := image.Valid(m, 0); got != api.OK {
		t.Errorf("R3: Valid of a solid image with empty slices that are not nil: %d; want 0", got)
	}
}

func TestValidOfSamples(t *testing.T) {
	good := []api.Pixel{px(0, 0, 0, 0, 0), px(0, 0, 0, 0, 200), px(200, 200, 200, 200, 200), px(1, 2, 3, 4, 5), px(100, 0, 100, 100, 200)}
	bad := []api.Pixel{px(5, 4, 4, 4, 9), px(4, 5, 4, 4, 9), px(4, 4, 5, 4, 9), px(4, 4, 4, 10, 9), px(4, 4, 4, 4, 201), px(0, 0, 0, 0, 65535), px(1, 0, 0, 0, 0), px(0, 0, 0, 1, 0)}
	for _, c := range good {
		if got := image.Valid(image.Solid(3, 2, c), 200); got != api.OK {
			t.Errorf("P15.1: Valid of a solid image of %v: %d; want 0", c, got)
		}
	}
	for _, c := range bad {
		if got := image.Valid(image.Solid(3, 2, c), 200); got != api.ErrSample {
			t.Errorf("P15.1: Valid of a solid image of %v: %d; want %d", c, got, api.ErrSample)
		}
		for i := range 6 {
			l := []api.Pixel{good[0], good[1], good[2], good[3], good[4], good[0]}
			for _, m := range layouts(3, 2, l) {
				if got := image.Valid(m, 200); got != api.OK {
					t.Fatalf("P15.1: Valid(%v, 200): %d; want 0", m, got)
				}
			}
			l[i] = c
			for _, m := range layouts(3, 2, l) {
				if got := image.Valid(m, 200); got != api.ErrSample {
					t.Errorf("P15.1: Valid with %v at place %d: %d; want %d", c, i, got, api.ErrSample)
				}
			}
		}
	}
	for _, max := range []uint16{0, 1, 2, 254, 255, 256, 32768, 65534, 65535} {
		for _, f := range []uint16{0, 1, 2, 3, 254, 255, 256, 257, 32768, 32769, 65534, 65535} {
			want := api.OK
			if f > max {
				want = api.ErrSample
			}
			m := laid(1, 1, 0, 0, false, []api.Pixel{px(0, 0, 0, 0, f)})
			if a, b := image.Valid(image.Solid(1, 1, px(f, f, f, f, f)), max), image.Valid(m, max); a != want || b != want {
				t.Errorf("P15.1: Valid of images with the shape %d, %d: %d and %d; want %d", f, max, a, b, want)
			}
		}
	}
	m, _ := common()
	if a, b := image.Valid(m, 7), image.Valid(m, 6); a != api.OK || b != api.ErrSample {
		t.Errorf("P15.1: Valid of an image whose planes share memory: %d, %d; want 0, %d", a, b, api.ErrSample)
	}
}

func TestValidOfLargeImages(t *testing.T) {
	s := make([]uint16, 2*top)
	for _, r := range [][3]int{{top, 1, top}, {1, top, 1}, {1 << 12, 1 << 12, 1 << 12}, {1, top, 2}, {1, 2, top}, {top / 2, 2, top}} {
		m := api.Image{W: r[0], H: r[1]}
		for k := range m.Planes {
			m.Planes[k] = api.Plane{W: r[0], H: r[1], Stride: r[2], S: s}
		}
		last := (r[1]-1)*r[2] + r[0] - 1
		if got := image.Valid(m, 0); got != api.OK {
			t.Errorf("P15.1: Valid of %v zeros: %d; want 0", r, got)
		}
		s[last] = 1
		if a, b := image.Valid(m, 0), image.Valid(m, 1); a != api.ErrSample || b != api.OK {
			t.Errorf("P15.1: Valid of %v zeros and a last pixel of 1: %d, %d; want %d, 0", r, a, b, api.ErrSample)
		}
		if a, b := image.At(m, r[0]-1, r[1]-1), image.At(m, r[0], r[1]-1); a != px(1, 1, 1, 1, 1) || b != (api.Pixel{}) {
			t.Errorf("P15.3: At the end of %v pixels: %v, %v", r, a, b)
		}
		m.Planes[4].S = s[:last]
		if got := image.Valid(m, 1); got != api.ErrPlane {
			t.Errorf("P15.1: Valid of %v with an element too few: %d; want %d", r, got, api.ErrPlane)
		}
		s[last] = 0
	}
}

func TestSolid(t *testing.T) {
	for _, w := range append(far(), 1, 2, 300, top) {
		for _, h := range append(far(), 1, 2, 300, top) {
			for _, c := range []api.Pixel{{}, px(1, 2, 3, 4, 5), px(9, 8, 7, 6, 5), px(65535, 0, 65535, 0, 1)} {
				if got := image.Solid(w, h, c); !same(got, api.Image{W: w, H: h, Solid: true, Color: c}) {
					t.Errorf("P15.2: Solid(%d, %d, %v): %v", w, h, c, got)
				}
			}
		}
	}
}

func TestOf(t *testing.T) {
	for w := -2; w <= 5; w++ {
		for h := -2; h <= 5; h++ {
			for n := range 27 {
				room := some(n + 3)
				before := slices.Clone(room)
				l := room[:n]
				m, ok := image.Of(w, h, l)
				if want := w >= 1 && h >= 1 && w*h == n; ok != want {
					t.Fatalf("P15.2: Of(%d, %d, %d pixels): %v; want %v", w, h, n, ok, want)
				}
				if !ok && !same(m, api.Image{}) {
					t.Fatalf("P15.2: Of(%d, %d, %d pixels): an image beside false", w, h, n)
				}
				if ok {
					checkOwn(t, "P15.2: Of", m, w, h, l)
				}
				if !slices.Equal(room, before) {
					t.Fatalf("R3: Of has changed its pixels")
				}
			}
		}
	}
	for _, m := range badSizes() {
		for _, n := range []int{0, 1, 2, 4} {
			if got, ok := image.Of(m.W, m.H, some(n)); ok || !same(got, api.Image{}) {
				t.Errorf("P15.2: Of(%d, %d, %d pixels): %v, %v; want false", m.W, m.H, n, got, ok)
			}
		}
	}
	// The pixels need not be valid for anything.
	l := []api.Pixel{px(65535, 7, 1, 0, 0), px(0, 0, 0, 65535, 65534)}
	m, ok := image.Of(2, 1, l)
	if !ok {
		t.Fatalf("P15.2: Of refuses pixels that are not valid")
	}
	l[0] = px(1, 1, 1, 1, 1)
	checkOwn(t, "P15.2: Of, whose pixels have been changed since", m, 2, 1, []api.Pixel{px(65535, 7, 1, 0, 0), px(0, 0, 0, 65535, 65534)})
}

func TestOfLargeImages(t *testing.T) {
	l := make([]api.Pixel, top+1)
	l[top-1] = px(1, 2, 3, 4, 5)
	for _, r := range [][2]int{{top, 1}, {1 << 12, 1 << 12}} {
		m, ok := image.Of(r[0], r[1], l[:top])
		if !ok || m.W != r[0] || m.H != r[1] || image.At(m, r[0]-1, r[1]-1) != l[top-1] || len(m.Planes[4].S) != top {
			t.Errorf("P15.2: Of(%d, %d, ..)", r[0], r[1])
		}
	}
	for _, r := range [][2]int{{top + 1, 1}, {1, top + 1}, {97, 172961}} {
		if _, ok := image.Of(r[0], r[1], l); ok || r[0]*r[1] != top+1 {
			t.Errorf("P15.2: Of(%d, %d, ..) with %d pixels: %v; want false", r[0], r[1], r[0]*r[1], ok)
		}
	}
}

// checkPixels holds At and Pixels of a well-formed image against its pixels.
func checkPixels(t *testing.T, m api.Image, l []api.Pixel) {
	t.Helper()
	before := kept(m)
	got := image.Pixels(m)
	if !slices.Equal(got, l) {
		t.Fatalf("P15.3: Pixels(%v): %v; want %v", m, got, l)
	}
	for y := -3; y <= m.H+5; y++ {
		for x := -3; x <= m.W+5; x++ {
			var want api.Pixel
			if 0 <= x && x < m.W && 0 <= y && y < m.H {
				want = l[y*m.W+x]
			}
			if got := image.At(m, x, y); got != want {
				t.Fatalf("P15.3: At(%v, %d, %d): %v; want %v", m, x, y, got, want)
			}
		}
	}
	for _, c := range []int{top, -top, 1 << 32, 1<<32 + 1, -1 << 32, 1 << 62, 1 << 61, math.MaxInt, math.MinInt, math.MinInt + 1} {
		for _, d := range []int{0, c} {
			if a, b := image.At(m, c, d), image.At(m, d, c); a != (api.Pixel{}) || b != (api.Pixel{}) {
				t.Fatalf("P15.3: At(%v, %d, %d) and the other way round: %v, %v", m, c, d, a, b)
			}
		}
	}
	for i := range got {
		got[i] = px(9, 9, 9, 9, 9)
	}
	unchanged(t, "At, Pixels or writing to the result of Pixels", m, before)
}

func TestAtAndPixels(t *testing.T) {
	for _, s := range sizes() {
		l := some(s[0] * s[1])
		for _, m := range layouts(s[0], s[1], l) {
			checkPixels(t, m, l)
		}
		c := px(1, 2, 3, 4, 5)
		checkPixels(t, image.Solid(s[0], s[1], c), slices.Repeat([]api.Pixel{c}, s[0]*s[1]))
	}
	m, l := common()
	checkPixels(t, m, l)
	// The samples may be any.
	l = []api.Pixel{px(65535, 7, 1, 0, 0), px(0, 0, 0, 65535, 65534)}
	checkPixels(t, laid(1, 2, 1, 1, true, l), l)
	checkPixels(t, image.Solid(1, 1, l[0]), l[:1])
	for _, m := range slices.Concat(badSizes(), badPlanes()) {
		if got := image.Pixels(m); len(got) != 0 {
			t.Errorf("P15.3: Pixels of an image that is not well-formed: %v; want none", got)
		}
		for y := -1; y <= 2; y++ {
			for x := -1; x <= 2; x++ {
				if got := image.At(m, x, y); got != (api.Pixel{}) {
					t.Errorf("P15.3: At(%v, %d, %d): %v; want a zero pixel", m, x, y, got)
				}
			}
		}
	}
	big := image.Solid(top, 1, px(1, 2, 3, 4, 5))
	if image.At(big, top-1, 0) != big.Color || image.At(big, top, 0) != (api.Pixel{}) {
		t.Errorf("P15.3: At the end of a solid image of %d pixels", top)
	}
}

// checkEqual holds Equal against what it should be, either way round.
func checkEqual(t *testing.T, m, n api.Image, want bool) {
	t.Helper()
	a, b := kept(m), kept(n)
	if there, back := image.Equal(m, n), image.Equal(n, m); there != want || back != want {
		t.Fatalf("P15.3: Equal(%v, %v): %v, and the other way round %v; want %v", m, n, there, back, want)
	}
	unchanged(t, "Equal", m, a)
	unchanged(t, "Equal", n, b)
}

func TestEqual(t *testing.T) {
	for _, s := range sizes() {
		n := s[0] * s[1]
		l := some(n)
		for _, m := range layouts(s[0], s[1], l) {
			for _, other := range layouts(s[0], s[1], l) {
				checkEqual(t, m, other, true)
			}
			for i := range n {
				for k := range 5 {
					changed := slices.Clone(l)
					changed[i] = put(l[i], k, get(l[i], k)^1<<(3*k))
					checkEqual(t, m, laid(s[0], s[1], 2, 0, false, changed), false)
				}
			}
		}
		c := px(1, 2, 3, 4, 5)
		solid := image.Solid(s[0], s[1], c)
		checkEqual(t, solid, solid, true)
		flat := slices.Repeat([]api.Pixel{c}, n)
		for _, m := range layouts(s[0], s[1], flat) {
			checkEqual(t, solid, m, true)
		}
		for k := range 5 {
			checkEqual(t, solid, image.Solid(s[0], s[1], put(c, k, 9)), false)
			for i := range n {
				changed := slices.Clone(flat)
				changed[i] = put(c, k, 9)
				checkEqual(t, solid, laid(s[0], s[1], 1, 0, true, changed), false)
			}
		}
	}
}

func TestEqualOfSizesAndForms(t *testing.T) {
	c := px(1, 2, 3, 4, 5)
	var l []api.Image
	for _, s := range sizes() {
		l = append(l, image.Solid(s[0], s[1], c))
	}
	for i, m := range l {
		for j, n := range l {
			checkEqual(t, m, n, i == j)
			checkEqual(t, m, laid(n.W, n.H, 1, 0, false, slices.Repeat([]api.Pixel{c}, n.W*n.H)), i == j)
		}
	}
	good := []api.Image{image.Solid(2, 2, px(9, 0, 0, 1, 2)), image.Solid(1, 1, api.Pixel{}), laid(2, 2, 0, 0, false, some(4)), laid(1, 1, 0, 0, false, make([]api.Pixel, 1))}
	for _, m := range slices.Concat(badSizes(), badPlanes()) {
		checkEqual(t, m, m, false)
		for _, n := range good {
			checkEqual(t, m, n, false)
		}
	}
	big := image.Solid(1<<12, 1<<12, c)
	checkEqual(t, big, image.Solid(1<<12, 1<<12, c), true)
	checkEqual(t, big, image.Solid(1<<11, 1<<13, c), false)
	m, pixels := common()
	checkEqual(t, m, laid(2, 2, 4, 4, true, pixels), true)
	// The samples may be any.
	odd := px(65535, 7, 1, 0, 0)
	checkEqual(t, image.Solid(1, 1, odd), laid(1, 1, 0, 0, false, []api.Pixel{odd}), true)
}

// converted returns the pixels l with another depth.
func converted(l []api.Pixel, from, to int) []api.Pixel {
	l = slices.Clone(l)
	for i := range l {
		switch {
		case from == 8 && to == 16:
			l[i] = sample.Widen(l[i])
		case from == 16 && to == 8:
			l[i] = sample.Narrow(l[i])
		}
	}
	return l
}

// checkConvert holds Convert of an image that has the pixels l against them.
func checkConvert(t *testing.T, m api.Image, l []api.Pixel, from, to int) {
	t.Helper()
	before := kept(m)
	want := converted(l, from, to)
	got, e := image.Convert(m, from, to)
	if e != api.OK || got.Solid != m.Solid {
		t.Fatalf("P15.4: Convert(%v, %d, %d): error %d", m, from, to, e)
	}
	if !m.Solid {
		checkOwn(t, "P15.4: Convert", got, m.W, m.H, want)
	} else if !same(got, image.Solid(m.W, m.H, want[0])) {
		t.Fatalf("P15.4: Convert(%v, %d, %d): %v; want %v", m, from, to, got, want[0])
	}
	unchanged(t, "Convert or writing to its result", m, before)
}

func TestConvert(t *testing.T) {
	depths := [][2]int{{8, 8}, {8, 16}, {16, 8}, {16, 16}}
	for _, d := range depths {
		for _, s := range sizes() {
			l := some(s[0] * s[1])
			if d[0] == 16 {
				for i := range l {
					l[i] = px(uint16(i), 128, 129, 3000+17*uint16(i), 65535-uint16(i))
				}
			}
			for _, m := range layouts(s[0], s[1], l) {
				checkConvert(t, m, l, d[0], d[1])
			}
			checkConvert(t, image.Solid(s[0], s[1], l[0]), l[:1], d[0], d[1])
		}
		m, l := common()
		checkConvert(t, m, l, d[0], d[1])
		checkConvert(t, image.Solid(1<<12, 1<<12, l[0]), l[:1], d[0], d[1])
	}
	// Numbers worked out by hand: 300 * 255 / 65535 is 1.17, and 32767 * 255 / 65535 is 127.498.
	for _, r := range []struct {
		from, to int
		c, want  api.Pixel
	}{
		{8, 16, px(1, 2, 0, 128, 255), px(257, 514, 0, 32896, 65535)},
		{16, 8, px(300, 128, 129, 32767, 65535), px(1, 0, 1, 127, 255)},
		{8, 8, px(1, 2, 0, 128, 255), px(1, 2, 0, 128, 255)},
		{16, 16, px(300, 128, 129, 32767, 65535), px(300, 128, 129, 32767, 65535)},
	} {
		got, e := image.Convert(laid(1, 1, 0, 0, false, []api.Pixel{r.c}), r.from, r.to)
		solid, f := image.Convert(image.Solid(1, 1, r.c), r.from, r.to)
		if e != api.OK || f != api.OK || image.At(got, 0, 0) != r.want || solid.Color != r.want {
			t.Errorf("P15.4: Convert of %v from %d to %d: %v, %v; want %v", r.c, r.from, r.to, image.At(got, 0, 0), solid.Color, r.want)
		}
	}
}

// refuseConvert checks that Convert returns an error and nothing else.
func refuseConvert(t *testing.T, m api.Image, from, to int, want api.Errno) {
	t.Helper()
	if got, e := image.Convert(m, from, to); e != want || !same(got, api.Image{}) {
		t.Fatalf("P15.4: Convert(%v, %d, %d): %v, error %d; want error %d", m, from, to, got, e, want)
	}
}

func TestConvertErrors(t *testing.T) {
	depths := []int{0, 1, 7, 9, 15, 17, 24, 32, 255, -8, -16, 8 + 1<<8, 16 + 1<<32, 8 - 1<<32, math.MaxInt, math.MinInt}
	good := image.Solid(1, 1, px(1, 2, 3, 4, 5))
	for _, m := range slices.Concat([]api.Image{good, laid(1, 1, 0, 0, false, some(1)), image.Solid(1, 1, px(2, 0, 0, 1, 1))}, badSizes(), badPlanes()) {
		for _, b := range depths {
			for _, d := range []int{8, 16, b} {
				refuseConvert(t, m, b, d, api.ErrBits)
				refuseConvert(t, m, d, b, api.ErrBits)
			}
		}
	}
	for _, from := range []int{8, 16} {
		for _, to := range []int{8, 16} {
			for _, m := range badSizes() {
				refuseConvert(t, m, from, to, api.ErrSize)
			}
			for _, m := range badPlanes() {
				refuseConvert(t, m, from, to, api.ErrPlane)
			}
			for _, c := range []api.Pixel{px(5, 4, 4, 4, 9), px(4, 5, 4, 4, 9), px(4, 4, 5, 4, 9), px(4, 4, 4, 10, 9)} {
				refuseConvert(t, image.Solid(1<<12, 1<<12, c), from, to, api.ErrSample)
				for i := range 4 {
					l := some(4)
					l[i] = c
					refuseConvert(t, laid(2, 2, 1, 1, true, l), from, to, api.ErrSample)
				}
			}
		}
	}
	// The maximum is that of the depth from, not that of the depth to.
	l := []api.Pixel{px(1, 2, 3, 4, 5), px(0, 0, 0, 0, 256)}
	for _, to := range []int{8, 16} {
		refuseConvert(t, laid(2, 1, 0, 0, false, l), 8, to, api.ErrSample)
		refuseConvert(t, image.Solid(2, 1, l[1]), 8, to, api.ErrSample)
		checkConvert(t, laid(2, 1, 0, 0, false, l), l, 16, to)
		checkConvert(t, image.Solid(2, 1, l[1]), l[1:], 16, to)
	}
}

// inside calls f for each rectangle of points of an image of w by h pixels.
func inside(w, h int, f func(r api.Rect)) {
	for x0 := 0; x0 < w; x0++ {
		for y0 := 0; y0 < h; y0++ {
			for x1 := x0 + 1; x1 <= w; x1++ {
				for y1 := y0 + 1; y1 <= h; y1++ {
					f(api.Rect{X0: x0, Y0: y0, X1: x1, Y1: y1})
				}
			}
		}
	}
}

// fresh returns n different pixels that some does not return, and that are valid
// for nothing.
func fresh(n int) []api.Pixel {
	l := some(n)
	for i := range l {
		l[i].C[0], l[i].A = 65535-uint16(i), 40000+uint16(i)
	}
	return l
}

// checkReplace holds Replace of an image that has the pixels l against the
// definition.
func checkReplace(t *testing.T, m api.Image, l []api.Pixel, r api.Rect) {
	t.Helper()
	before := kept(m)
	n := (r.X1 - r.X0) * (r.Y1 - r.Y0)
	room := fresh(n + 3)
	want := slices.Clone(l)
	i := 0
	for y := r.Y0; y < r.Y1; y++ {
		for x := r.X0; x < r.X1; x++ {
			want[y*m.W+x] = room[i]
			i++
		}
	}
	got, e := image.Replace(m, r, room[:n])
	if e != api.OK {
		t.Fatalf("P15.5: Replace(%v, %v, ..): error %d", m, r, e)
	}
	checkOwn(t, "P15.5: Replace", got, m.W, m.H, want)
	unchanged(t, "Replace or writing to its result", m, before)
	if !slices.Equal(room, fresh(n+3)) {
		t.Fatalf("R3: Replace has changed its pixels")
	}
}

func TestReplace(t *testing.T) {
	for _, s := range sizes() {
		l := some(s[0] * s[1])
		c := px(1, 2, 3, 4, 5)
		inside(s[0], s[1], func(r api.Rect) {
			for _, m := range layouts(s[0], s[1], l) {
				checkReplace(t, m, l, r)
			}
			checkReplace(t, image.Solid(s[0], s[1], c), slices.Repeat([]api.Pixel{c}, s[0]*s[1]), r)
		})
	}
	m, l := common()
	inside(2, 2, func(r api.Rect) { checkReplace(t, m, l, r) })
	// The samples of the image may be any too.
	odd := []api.Pixel{px(65535, 7, 1, 0, 0), px(0, 0, 0, 65535, 65534), px(1, 0, 0, 0, 0)}
	inside(3, 1, func(r api.Rect) { checkReplace(t, laid(3, 1, 1, 1, true, odd), odd, r) })
	inside(1, 1, func(r api.Rect) { checkReplace(t, image.Solid(1, 1, odd[0]), odd[:1], r) })
}

func TestReplaceInLargeImages(t *testing.T) {
	c, d := px(1, 2, 3, 4, 5), px(6, 7, 8, 9, 10)
	m := image.Solid(1<<12, 1<<12, c)
	got, e := image.Replace(m, api.Rect{X0: 1<<12 - 1, Y0: 1<<12 - 1, X1: 1 << 12, Y1: 1 << 12}, []api.Pixel{d})
	if e != api.OK || image.At(got, 1<<12-1, 1<<12-1) != d || image.At(got, 1<<12-2, 1<<12-1) != c || image.At(got, 0, 0) != c || len(got.Planes[0].S) != top {
		t.Errorf("P15.5: Replace of the last of %d pixels: error %d", top, e)
	}
}

// refuseReplace checks that Replace returns an error and nothing else.
func refuseReplace(t *testing.T, m api.Image, r api.Rect, l []api.Pixel, want api.Errno) {
	t.Helper()
	if got, e := image.Replace(m, r, l); e != want || !same(got, api.Image{}) {
		t.Fatalf("P15.5: Replace(%v, %v, %d pixels): %v, error %d; want error %d", m, r, len(l), got, e, want)
	}
}

func TestReplaceErrors(t *testing.T) {
	one := api.Rect{X1: 1, Y1: 1}
	for _, r := range []api.Rect{one, {}, {X0: -1, X1: 1, Y1: 1}} {
		for n := range 3 {
			for _, m := range badSizes() {
				refuseReplace(t, m, r, some(n), api.ErrSize)
			}
			for _, m := range badPlanes() {
				refuseReplace(t, m, r, some(n), api.ErrPlane)
			}
		}
	}
	l := []api.Image{image.Solid(3, 2, px(1, 2, 3, 4, 5)), laid(3, 2, 1, 1, true, some(6))}
	for _, m := range l {
		for x0 := -2; x0 <= 4; x0++ {
			for x1 := -2; x1 <= 4; x1++ {
				for y0 := -2; y0 <= 3; y0++ {
					for y1 := -2; y1 <= 3; y1++ {
						if 0 <= x0 && x0 < x1 && x1 <= 3 && 0 <= y0 && y0 < y1 && y1 <= 2 {
							continue
						}
						r := api.Rect{X0: x0, Y0: y0, X1: x1, Y1: y1}
						refuseReplace(t, m, r, some(max((x1-x0)*(y1-y0), 0)), api.ErrArg)
						refuseReplace(t, m, r, nil, api.ErrArg)
						refuseReplace(t, m, r, some(1), api.ErrArg)
					}
				}
			}
		}
		inside(3, 2, func(r api.Rect) {
			for n := range 10 {
				if n != (r.X1-r.X0)*(r.Y1-r.Y0) {
					refuseReplace(t, m, r, some(n), api.ErrArg)
				}
			}
		})
		for _, c := range []int{1<<30 + 1, -1<<30 - 1, 1 << 32, 1<<32 + 1, 1 << 62, math.MaxInt, math.MinInt, math.MinInt + 1} {
			for _, r := range []api.Rect{{X0: c, X1: 1, Y1: 1}, {Y0: c, X1: 1, Y1: 1}, {X1: c, Y1: 1}, {X1: 1, Y1: c}, {X0: c, Y0: c, X1: c + 1, Y1: c + 1}, {X1: c, Y1: c}} {
				refuseReplace(t, m, r, some(1), api.ErrArg)
				refuseReplace(t, m, r, nil, api.ErrArg)
			}
		}
	}
}
