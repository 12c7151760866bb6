package text_test

import (
	"fmt"
	"math"
	"math/big"
	"reflect"
	"regexp"
	"slices"
	"strings"
	"testing"

	"compositor/api"
	"compositor/image"
	"compositor/script"
	"compositor/text"
)

// The names of the operators and modes, in the order of their numbers.
var (
	operators = []string{"clear", "src", "dst", "src-over", "dst-over", "src-in", "dst-in", "src-out", "dst-out", "src-atop", "dst-atop", "xor"}
	modes     = []string{"normal", "multiply", "screen", "overlay", "darken", "lighten", "color-dodge", "color-burn", "hard-light", "soft-light", "difference", "exclusion"}
)

// head is the shortest text.
const head = "bits 8\ncanvas 0 0 1 1\ntiles 1 1\n"

// px returns a pixel.
func px(c0, c1, c2, a, f uint16) api.Pixel {
	return api.Pixel{C: [3]uint16{c0, c1, c2}, A: a, F: f}
}

// of returns the image with the pixels l.
func of(w, h int, l ...api.Pixel) api.Image {
	m, _ := image.Of(w, h, l)
	return m
}

// spread returns the image with the pixels l whose planes have elements between
// their rows and after them, a different number for each.
func spread(w, h int, l ...api.Pixel) api.Image {
	m := of(w, h, l...)
	for k := range m.Planes {
		p := &m.Planes[k]
		stride := w + 1 + k
		s := slices.Repeat([]uint16{40000}, (h-1)*stride+w+k)
		for y := range h {
			copy(s[y*stride:], p.S[y*w:(y+1)*w])
		}
		p.Stride, p.S = stride, s
	}
	return m
}

// full returns a printable script in which every field has a value of its own.
func full() api.Script {
	return api.Script{
		Bits: 16, Canvas: api.Rect{X0: -3, Y0: 40, X1: math.MaxInt32, Y1: math.MinInt32}, TileW: 100, TileH: math.MaxUint32,
		Order:  []int{20, 0, math.MaxUint32, 7},
		Images: []api.Image{of(2, 3, px(1, 2, 3, 4, 5), px(6, 70, 800, 9000, 65535), px(0, 0, 0, 0, 0), px(10, 9, 8, 7, 6), px(1, 0, 1, 0, 1), px(5, 4, 3, 2, 1)), image.Solid(90, 8, px(1, 20, 300, 4000, 50000)), of(1, 1, px(0, 0, 0, 255, 255)), image.Solid(1, 1, api.Pixel{})},
		Ops: []api.Op{
			{Kind: api.Draw, Image: 200, X: -5, Y: 6, Mask: 30, MaskX: 2147483647, MaskY: -2147483648, Opacity: 65535, Operator: api.SrcOver, Mode: api.Normal},
			{Kind: api.Push, Mask: 255, MaskX: -1, MaskY: 10, Opacity: 128, Operator: api.Xor, Mode: api.SoftLight, Isolated: true},
			{Kind: api.Draw, Operator: api.DstOut, Mode: api.ColorDodge}, {Kind: api.Pop},
			{Kind: api.Push, Operator: api.Clear, Mode: api.Exclusion, Knockout: true}, {Kind: api.Pop}, {Kind: api.Pop},
		},
	}
}

// lines is the definition of the text of a printable script.
func lines(s api.Script) string {
	t := fmt.Sprintf("bits %d\ncanvas %d %d %d %d\ntiles %d %d\n", s.Bits, s.Canvas.X0, s.Canvas.Y0, s.Canvas.X1, s.Canvas.Y1, s.TileW, s.TileH)
	if len(s.Order) != 0 {
		t += "order " + strings.Trim(fmt.Sprint(s.Order), "[]") + "\n"
	}
	for _, m := range s.Images {
		if m.Solid {
			t += fmt.Sprintf("solid %d %d %s\n", m.W, m.H, samples(m.Color))
			continue
		}
		t += fmt.Sprintf("image %d %d\n", m.W, m.H)
		for _, p := range image.Pixels(m) {
			t += samples(p) + "\n"
		}
	}
	for _, o := range s.Ops {
		switch o.Kind {
		case api.Draw:
			t += fmt.Sprintf("draw %d %d %d %d %d %d %d %s %s\n", o.Image, o.X, o.Y, o.Mask, o.MaskX, o.MaskY, o.Opacity, operators[o.Operator-1], modes[o.Mode-1])
		case api.Push:
			i, k := 0, 0
			if o.Isolated {
				i = 1
			}
			if o.Knockout {
				k = 1
			}
			t += fmt.Sprintf("push %d %d %d %d %s %s %d %d\n", o.Mask, o.MaskX, o.MaskY, o.Opacity, operators[o.Operator-1], modes[o.Mode-1], i, k)
		default:
			t += "pop\n"
		}
	}
	return t
}

// samples returns the words of a pixel.
func samples(p api.Pixel) string {
	return fmt.Sprint(p.C[0], p.C[1], p.C[2], p.A, p.F)
}

// checkGood reports whether Format of s is its text and Parse of that text is s.
func checkGood(t *testing.T, what string, s api.Script) {
	t.Helper()
	want := lines(s)
	got, e := text.Format(s)
	if e != api.OK || got != want {
		t.Errorf("P19.1: Format of %s: error %d\n%.2000s\nwant\n%.2000s", what, e, got, want)
	}
	r, at, e := text.Parse(want)
	if e != api.OK || at != 0 || !script.Equal(r, s) {
		t.Errorf("P19.2: Parse of the text of %s: line %d, error %d", what, at, e)
	}
	for i, m := range r.Images {
		n := s.Images[i]
		if !m.Solid {
			n = of(n.W, n.H, image.Pixels(n)...)
		}
		if !reflect.DeepEqual(m, n) {
			t.Errorf("P19.2: Parse of the text of %s: image %d is not as image.Of or image.Solid gives it", what, i)
		}
	}
}

// checkBad reports whether Format of s is ErrForm.
func checkBad(t *testing.T, what string, s api.Script) {
	t.Helper()
	if got, e := text.Format(s); got != "" || e != api.ErrForm {
		t.Errorf("P19.1, R4: Format of %s: %.200q, error %d; want none and %d", what, got, e, api.ErrForm)
	}
}

// checkParse reports whether Parse of u ends in the given line, or 0 for a good text.
func checkParse(t *testing.T, u string, want int) {
	t.Helper()
	s, at, e := text.Parse(u)
	if want == 0 {
		if got, _ := text.Format(s); e != api.OK || at != 0 || got != u {
			t.Errorf("P19.2: Parse of %.200q: line %d, error %d; want its script", u, at, e)
		}
		return
	}
	if e != api.ErrForm || at != want || !reflect.DeepEqual(s, api.Script{}) {
		t.Errorf("P19.2, R4: Parse of %.200q: line %d, error %d; want %d, %d and no script", u, at, e, want, api.ErrForm)
	}
}

func TestGood(t *testing.T) {
	checkGood(t, "an empty script", api.Script{})
	checkGood(t, "a full script", full())
	s := full()
	s.Order = []int{}
	checkGood(t, "a script with an empty order", s)
	s.Images = nil
	checkGood(t, "a script without images", s)
	s = full()
	s.Ops = nil
	checkGood(t, "a script without operations", s)
	s.Images[0] = spread(3, 2, image.Pixels(s.Images[0])...)
	checkGood(t, "a script with gaps in its planes", s)
	s.Images = slices.Repeat([]api.Image{image.Solid(4096, 4096, px(5, 4, 3, 2, 1)), of(1, 2, px(1, 2, 3, 4, 5), px(6, 7, 8, 9, 10))}, api.MaxImages/2)
	s.Ops = slices.Repeat([]api.Op{{Kind: api.Pop}, {Kind: api.Draw, Operator: 1, Mode: 1}}, api.MaxOps/2)
	checkGood(t, "a script with as many images and operations as there may be", s)
	// The text of the chapter's example.
	d := api.Op{Kind: api.Draw, X: -1, Y: 2, Opacity: 255, Operator: api.SrcOver, Mode: api.Normal}
	if got, _ := text.Format(api.Script{Ops: []api.Op{d}}); !strings.HasSuffix(got, "\ndraw 0 -1 2 0 0 0 255 src-over normal\n") {
		t.Errorf("P19.1: Format of the chapter's draw: %q", got)
	}
}

func TestNames(t *testing.T) {
	for o := range operators {
		for m := range modes {
			for _, k := range []int{api.Draw, api.Push} {
				checkGood(t, fmt.Sprint("operator ", o+1, " with mode ", m+1), api.Script{Ops: []api.Op{{Kind: k, Operator: o + 1, Mode: m + 1}}})
			}
		}
	}
}

// at returns the full script with operation i replaced by what f makes of it.
func at(i int, f func(o *api.Op)) api.Script {
	s := full()
	f(&s.Ops[i])
	return s
}

func TestNotPrintable(t *testing.T) {
	const draw, push, pop = 0, 1, 3
	for i, f := range []func(o *api.Op){
		func(o *api.Op) { o.Image = 1 }, func(o *api.Op) { o.X = -1 }, func(o *api.Op) { o.Y = 1 }, func(o *api.Op) { o.Mask = 1 }, func(o *api.Op) { o.MaskX = 1 },
		func(o *api.Op) { o.MaskY = -1 }, func(o *api.Op) { o.Opacity = 1 }, func(o *api.Op) { o.Operator = 1 }, func(o *api.Op) { o.Mode = 1 },
		func(o *api.Op) { o.Isolated = true }, func(o *api.Op) { o.Knockout = true },
	} {
		checkBad(t, fmt.Sprint("a pop with field ", i), at(pop, f))
		if i < 3 {
			checkBad(t, fmt.Sprint("a push with field ", i), at(push, f))
		}
		if i > 8 {
			checkBad(t, fmt.Sprint("a draw with field ", i), at(draw, f))
		}
	}
	for _, k := range []int{0, 4, 5, 255, 256 + api.Draw, -1, 1<<32 + api.Pop, math.MinInt} {
		for i := range full().Ops {
			checkBad(t, fmt.Sprint("operation ", i, " with kind ", k), at(i, func(o *api.Op) { o.Kind = k }))
		}
		checkBad(t, fmt.Sprint("an operation with nothing but the kind ", k), api.Script{Ops: []api.Op{{Kind: k}}})
	}
	for _, v := range []int{0, 13, 14, 255, 256 + 1, -1, 1<<32 + 1, math.MinInt + 1} {
		for _, i := range []int{draw, push} {
			checkBad(t, fmt.Sprint("operation ", i, " with operator ", v), at(i, func(o *api.Op) { o.Operator = v }))
			checkBad(t, fmt.Sprint("operation ", i, " with mode ", v), at(i, func(o *api.Op) { o.Mode = v }))
		}
	}
}

// numbers are the places of numbers in a script, with the bounds of each.
func numbers(s *api.Script) []struct {
	v      *int
	lo, hi int
} {
	type row = struct {
		v      *int
		lo, hi int
	}
	l := []row{{&s.Bits, 0, 255}, {&s.TileW, 0, math.MaxUint32}, {&s.TileH, 0, math.MaxUint32}, {&s.Order[0], 0, math.MaxUint32}, {&s.Order[3], 0, math.MaxUint32}, {&s.Ops[0].Image, 0, 255}, {&s.Ops[0].Mask, 0, 255}, {&s.Ops[1].Mask, 0, 255}}
	for _, v := range []*int{&s.Canvas.X0, &s.Canvas.Y0, &s.Canvas.X1, &s.Canvas.Y1, &s.Ops[0].X, &s.Ops[0].Y, &s.Ops[0].MaskX, &s.Ops[0].MaskY, &s.Ops[1].MaskX, &s.Ops[1].MaskY} {
		l = append(l, row{v, math.MinInt32, math.MaxInt32})
	}
	return l
}

func TestRanges(t *testing.T) {
	plain := strings.Split(lines(full()), "\n")
	for i := range numbers(new(full())) {
		s := full()
		r := numbers(&s)[i]
		for _, v := range []int{r.lo, r.lo + 1, r.hi - 1, r.hi} {
			*r.v = v
			checkGood(t, fmt.Sprint("number ", i, " at ", v), s)
		}
		for _, v := range []int{r.lo - 1, r.hi + 1, r.lo - 1<<32, r.hi + 1<<32, 1 << 32, 1<<62 + 1, math.MaxInt, math.MinInt} {
			*r.v = v
			checkBad(t, fmt.Sprint("number ", i, " at ", v), s)
			u := lines(s)
			// The line with the number is the only one that is not as before.
			for j, l := range strings.Split(u, "\n") {
				if l != plain[j] {
					checkParse(t, u, j+1)
				}
			}
		}
	}
}

func TestNotEncodable(t *testing.T) {
	s := full()
	s.Images = append(s.Images, slices.Repeat([]api.Image{image.Solid(1, 1, api.Pixel{})}, api.MaxImages)...)
	checkBad(t, "too many images", s)
	s = full()
	s.Ops = slices.Repeat([]api.Op{{Kind: api.Pop}}, api.MaxOps+1)
	checkBad(t, "too many operations", s)
	for i, f := range []func(m *api.Image){
		func(m *api.Image) { m.W = 0 }, func(m *api.Image) { m.H = -3 }, func(m *api.Image) { m.W = 3 }, func(m *api.Image) { m.Solid = true },
		func(m *api.Image) { m.Color.F = 1 }, func(m *api.Image) { m.Planes[4].Stride = 1 }, func(m *api.Image) { m.Planes[3].S = m.Planes[3].S[:5] }, func(m *api.Image) { m.Planes[2] = api.Plane{} },
	} {
		s := full()
		f(&s.Images[0])
		checkBad(t, fmt.Sprint("an image that is not well-formed, ", i), s)
	}
	s = full()
	s.Images = []api.Image{{W: 4096, H: 4096}}
	for k := range s.Images[0].Planes {
		s.Images[0].Planes[k] = api.Plane{W: 4096, H: 4096, Stride: 4096, S: make([]uint16, 4096*4096)}
	}
	checkBad(t, "an image with too many bytes", s)
}

// The kinds of words in the pattern of a line, and what of the numbers is permitted.
var kinds = map[byte]struct{ lo, hi int64 }{'B': {0, 255}, 'S': {math.MinInt32, math.MaxInt32}, 'U': {0, math.MaxUint32}, 'H': {0, 65535}, 'P': {1, api.MaxPixels}, 'F': {0, 1}}

var decimal = regexp.MustCompile(`\A(0|-?[1-9][0-9]{0,9})\z`)

// matches reports whether a line consists of words of the pattern.
func matches(pattern, l string) bool {
	p, w := strings.Split(pattern, " "), strings.Split(l, " ")
	if len(p) != len(w) {
		return false
	}
	for i := range p {
		good := p[i] == w[i]
		if k, is := kinds[p[i][0]]; is {
			v, _ := new(big.Int).SetString(w[i], 10)
			good = decimal.MatchString(w[i]) && v.Cmp(big.NewInt(k.lo)) >= 0 && v.Cmp(big.NewInt(k.hi)) <= 0
		} else if p[i] == "O" {
			good = slices.Contains(operators, w[i])
		} else if p[i] == "M" {
			good = slices.Contains(modes, w[i])
		}
		if !good {
			return false
		}
	}
	return true
}

// area returns the number of pixels of an image whose line begins with a word and
// the two sides.
func area(l string) int {
	var first string
	var w, h int
	fmt.Sscan(l, &first, &w, &h)
	return w * h
}

// expected is the definition of the number that Parse returns, for texts with few
// pixels, images and operations.
func expected(t string) int {
	l := strings.Split(t, "\n")
	whole, tail := l[:len(l)-1], l[len(l)-1]
	at := 0
	some := func(good func(l string) bool) bool {
		if at < len(whole) && good(whole[at]) {
			at++
			return true
		}
		return false
	}
	one := func(pattern string) bool { return some(func(l string) bool { return matches(pattern, l) }) }
	if !one("bits B") || !one("canvas S S S S") || !one("tiles U U") {
		return at + 1
	}
	some(func(l string) bool {
		return strings.HasPrefix(l, "order ") && matches("order"+strings.Repeat(" U", strings.Count(l, " ")), l)
	})
	for images := true; images; {
		images = false
		if some(func(l string) bool { return matches("solid P P H H H H H", l) && area(l) <= api.MaxPixels }) {
			images = true
		} else if some(func(l string) bool { return matches("image P P", l) && area(l) <= api.MaxPixels }) {
			for range area(whole[at-1]) {
				if !one("H H H H H") {
					return at + 1
				}
			}
			images = true
		}
	}
	for one("pop") || one("draw B S S B S S H O M") || one("push B S S H O M F F") {
	}
	if at < len(whole) || tail != "" {
		return at + 1
	}
	return 0
}

// small is a text with each kind of line.
const small = "bits 16\ncanvas -10 0 1 20\ntiles 10 2\norder 1 0 31\nsolid 7 3 0 0 12 9 10\nimage 1 2\n1 2 3 4 5\n0 60 0 255 255\nimage 1 1\n0 0 0 0 9\ndraw 0 -1 2 1 0 30 255 src-over normal\npush 2 -5 60 128 xor soft-light 1 0\npop\ndraw 1 0 0 0 0 0 0 dst hard-light\npop\n"

func TestEveryByte(t *testing.T) {
	if expected(small) != 0 {
		t.Fatal("the definition of this test does not know its text")
	}
	checkParse(t, small, 0)
	for i := range len(small) + 1 {
		checkParse(t, small[:i], expected(small[:i]))
		for _, c := range "\n 019-+x_.,\r\t\x00\u00a0" {
			u := small[:i] + string(c) + small[i:]
			checkParse(t, u, expected(u))
			if i < len(small) {
				u = small[:i] + string(c) + small[i+1:]
				checkParse(t, u, expected(u))
			}
		}
		if i < len(small) {
			u := small[:i] + small[i+1:]
			checkParse(t, u, expected(u))
			for c := range 256 {
				u := small[:i] + string([]byte{byte(c)}) + small[i+1:]
				checkParse(t, u, expected(u))
			}
		}
	}
}

func TestEveryLine(t *testing.T) {
	l := strings.SplitAfter(small, "\n")
	l = l[:len(l)-1]
	for i := range l {
		for j := range l {
			u := slices.Concat(l[:i], l[j:j+1], l[i:])
			checkParse(t, strings.Join(u, ""), expected(strings.Join(u, "")))
			u = slices.Clone(l)
			u[i], u[j] = u[j], u[i]
			checkParse(t, strings.Join(u, ""), expected(strings.Join(u, "")))
		}
		u := slices.Delete(slices.Clone(l), i, i+1)
		checkParse(t, strings.Join(u, ""), expected(strings.Join(u, "")))
		// Each word of the line away, and twice.
		w := strings.Split(strings.TrimSuffix(l[i], "\n"), " ")
		for k := range w {
			for _, v := range [][]string{slices.Delete(slices.Clone(w), k, k+1), slices.Insert(slices.Clone(w), k, w[k]), slices.Insert(slices.Clone(w), k, ""), slices.Concat(w[:k], []string{strings.ToUpper(w[k])}, w[k+1:])} {
				u := slices.Clone(l)
				u[i] = strings.Join(v, " ") + "\n"
				checkParse(t, strings.Join(u, ""), expected(strings.Join(u, "")))
			}
		}
	}
}

func TestNumbers(t *testing.T) {
	words := []string{"", "-", "+", "--1", "-+1", "+-1", "+0", "-0", "00", "-00", "01", "-01", "0x1", "1e1", "1_0", "0b1", "1.", "１", "1\r", "9999999999", "-9999999999", "10000000000", "4294967295", "4294967296", "2147483647", "2147483648", "-2147483648", "-2147483649", "4294967297", "0000000001", "18446744073709551617", "-18446744073709551615", "9223372036854775807", "9223372036854775808", strings.Repeat("9", 1000), strings.Repeat("0", 1000), "0", "1", "-1", "255", "256", "65535", "65536", "16777216", "16777217", "true", "src", "normal"}
	l := strings.SplitAfter(small, "\n")
	for i := range len(l) - 1 {
		w := strings.Split(strings.TrimSuffix(l[i], "\n"), " ")
		for k := range w {
			for _, v := range words {
				u := slices.Clone(l)
				x := slices.Clone(w)
				x[k] = v
				u[i] = strings.Join(x, " ") + "\n"
				checkParse(t, strings.Join(u, ""), expected(strings.Join(u, "")))
			}
		}
	}
}

func TestNameWords(t *testing.T) {
	for _, name := range slices.Concat(operators, modes, []string{"", "Src", "src-", "src over", "srcover", "src_over", "hue", "4", "color-dodg", "color-dodge ", "\u017frc"}) {
		for _, u := range []string{head + "draw 0 0 0 0 0 0 0 " + name + " normal\n", head + "draw 0 0 0 0 0 0 0 src " + name + "\n", head + "push 0 0 0 0 " + name + " normal 0 1\n", head + "push 0 0 0 0 src " + name + " 1 1\n"} {
			checkParse(t, u, expected(u))
		}
	}
}

func TestLimits(t *testing.T) {
	solid, one := "solid 1 1 0 0 0 0 0\n", "image 1 1\n0 0 0 0 0\n"
	many := head + strings.Repeat(solid, api.MaxImages-1)
	for _, r := range []struct {
		u  string
		at int
	}{
		{many, 0}, {many + solid, 0}, {many + one, 0}, {many + solid + solid, 4 + api.MaxImages}, {many + solid + one, 4 + api.MaxImages}, {many + one + solid, 5 + api.MaxImages}, {many + one + one, 5 + api.MaxImages}, {many + solid + "image 1 1\n", 4 + api.MaxImages}, {many + solid + "image 1 1", 4 + api.MaxImages}, {many + solid + "pop\n", 0},
		{head + strings.Repeat(one, api.MaxImages), 0}, {head + strings.Repeat(one, api.MaxImages+1), 4 + 2*api.MaxImages},
		{head + strings.Repeat("pop\n", api.MaxOps), 0}, {head + strings.Repeat("pop\n", api.MaxOps+1), 4 + api.MaxOps}, {head + strings.Repeat("pop\n", api.MaxOps) + "draw 0 0 0 0 0 0 0 src normal\n", 4 + api.MaxOps}, {head + strings.Repeat("pop\n", api.MaxOps) + "push 0 0 0 0 src normal 0 0\n\n", 4 + api.MaxOps},
		{head + "solid 16777216 1 0 0 0 0 0\n", 0}, {head + "solid 1 16777216 0 0 0 0 0\n", 0}, {head + "solid 4096 4096 0 0 0 0 0\n", 0}, {head + "solid 4096 4097 0 0 0 0 0\n", 4}, {head + "solid 2 8388609 0 0 0 0 0\n", 4}, {head + "solid 4294967295 4294967295 0 0 0 0 0\n", 4}, {head + "solid 4294967296 1 0 0 0 0 0\n", 4}, {head + "solid 0 0 0 0 0 0 0\n", 4}, {head + "solid -1 -1 0 0 0 0 0\n", 4},
		{head + "image 4096 4096\n", 5}, {head + "image 4096 4096\n0 0 0 0 0\n", 6}, {head + "image 4096 4097\n0 0 0 0 0\n", 4}, {head + "image 16777216 1\n\n", 5}, {head + "image 0 5\n", 4}, {head + "image -1 -1\n1 1 1 1 1\n", 4}, {head + "image 4294967296 4294967296\n", 4}, {head + "image 2147483648 2147483648\n", 4},
		// The canvas may be any: what is printable need not be valid.
		{"bits 0\ncanvas 5 5 -5 -5\ntiles 0 0\norder 9 9 9\n", 0},
	} {
		checkParse(t, r.u, r.at)
	}
}

// TestBytes goes to the limit MaxBytes with the order, of which each element has
// four bytes, and past it with an image.
func TestBytes(t *testing.T) {
	const fixed = 34
	n := (api.MaxBytes - fixed) / 4
	order := head + "order" + strings.Repeat(" 0", n)
	checkParse(t, order+"\n", 0)
	over := order + " 0"
	for _, r := range []struct {
		u  string
		at int
	}{{over + "\npop\n", 0}, {over, 4}, {over + "\npop\nbits 8\n", 6}, {over + " \n", 4}} {
		s, at, e := text.Parse(r.u)
		if at != r.at || e != api.ErrForm || !reflect.DeepEqual(s, api.Script{}) {
			t.Errorf("P19.2: Parse of a text with more than MaxBytes bytes and %.20q after them: line %d, error %d; want %d, %d", r.u[len(over):], at, e, r.at, api.ErrForm)
		}
	}
	s, _, _ := text.Parse(head)
	s.Order = make([]int, n)
	if got, e := text.Format(s); got != order+"\n" || e != api.OK {
		t.Errorf("P19.1: Format of a script with MaxBytes bytes: error %d", e)
	}
	s.Order = make([]int, n+1)
	checkBad(t, "a script with more than MaxBytes bytes", s)
}

// TestImageBytes reads an image that is too large for an encoding.
func TestImageBytes(t *testing.T) {
	const w = 2600
	u := head + "image 2600 2600\n" + strings.Repeat("0 0 0 0 0\n", w*w)
	for _, r := range []struct {
		u  string
		at int
	}{{u + "pop\n", 0}, {u + "pip\n", w*w + 5}, {u[:len(u)-1], w*w + 4}} {
		if s, at, e := text.Parse(r.u); at != r.at || e != api.ErrForm || len(s.Images) != 0 {
			t.Errorf("P19.2: Parse of a text with too large an image: line %d, error %d; want %d, %d", at, e, r.at, api.ErrForm)
		}
	}
}

func TestFresh(t *testing.T) {
	s := full()
	// What is after the elements of a slice is not a part of the script.
	s.Order = append(slices.Clone(s.Order), 99)[:len(s.Order)]
	s.Images = append(slices.Clone(s.Images), api.Image{W: -1})[:len(s.Images)]
	s.Ops = append(slices.Clone(s.Ops), api.Op{Kind: 77})[:len(s.Ops)]
	checkGood(t, "a script with room after its lists", s)
	if !reflect.DeepEqual(s, full()) || s.Order[:len(s.Order)+1][len(s.Order)] != 99 || s.Images[:len(s.Images)+1][len(s.Images)].W != -1 || s.Ops[:len(s.Ops)+1][len(s.Ops)].Kind != 77 {
		t.Error("R3: Format has changed its argument")
	}
	u := lines(s)
	a, _, _ := text.Parse(u)
	b, _, _ := text.Parse(u)
	a.Order[0]++
	a.Ops[0].X++
	a.Images[1].Color.A++
	for k := range a.Images[0].Planes {
		a.Images[0].Planes[k].S[0]++
	}
	a.Images[0].Planes[0].S[1]++
	for k, v := range px(2, 3, 4, 5, 6).C {
		if a.Images[0].Planes[k].S[0] != v {
			t.Error("R3: planes of an image of Parse share memory")
		}
	}
	if !script.Equal(b, full()) {
		t.Error("R3: two results of Parse share memory")
	}
}
