package operator_test

import (
	"math"
	"strings"
	"testing"

	"compositor/api"
	"compositor/operator"
)

const top = 65535

// definition is a row of the chapter's table, with its formulas.
type definition struct {
	op     int
	name   string
	fa, fb func(a, b, max int64) int64
	shape  func(f, g, max int64) int64
}

func definitions() []definition {
	zero := func(x, y, max int64) int64 { return 0 }
	all := func(x, y, max int64) int64 { return max }
	first := func(x, y, max int64) int64 { return x }
	second := func(x, y, max int64) int64 { return y }
	butFirst := func(x, y, max int64) int64 { return max - x }
	butSecond := func(x, y, max int64) int64 { return max - y }
	union := func(f, g, max int64) int64 { return nearest(max*f+(max-f)*g, max) }
	product := func(f, g, max int64) int64 { return nearest(f*g, max) }
	return []definition{
		{api.Clear, "clear", zero, zero, zero},
		{api.Src, "src", all, zero, first},
		{api.Dst, "dst", zero, all, second},
		{api.SrcOver, "src-over", all, butFirst, union},
		{api.DstOver, "dst-over", butSecond, all, union},
		{api.SrcIn, "src-in", second, zero, product},
		{api.DstIn, "dst-in", zero, first, product},
		{api.SrcOut, "src-out", butSecond, zero, first},
		{api.DstOut, "dst-out", zero, butFirst, second},
		{api.SrcAtop, "src-atop", second, butFirst, second},
		{api.DstAtop, "dst-atop", butSecond, first, first},
		{api.Xor, "xor", butSecond, butFirst, union},
	}
}

// nearest is the definition of layer 1: (2n + d) / 2d, rounded down.
func nearest(n, d int64) int64 { return (2*n + d) / (2 * d) }

// others returns numbers that are no operators; some have the low bits of one.
func others() []int {
	l := []int{-256 + 1, 256 + 1, 1<<16 + 2, 1<<32 + 3, math.MinInt, math.MinInt + 4, math.MaxInt, 100}
	for n := range 40 {
		l = append(l, -n, 13+n)
	}
	return l
}

// maxima returns values of max: the least ones, those of both depths, and odd
// and even ones between.
func maxima() []uint16 {
	return []uint16{1, 2, 3, 4, 10, 127, 128, 254, 255, 256, 1000, 4095, 32767, 32768, top - 1, top}
}

// spread returns samples from 0 to max: all of few, and some of many, with those
// next to the ends, the middle and the square root.
func spread(max uint16) []uint16 {
	var l []uint16
	if max < 20 {
		for n := range max + 1 {
			l = append(l, n)
		}
		return l
	}
	root := uint16(math.Sqrt(float64(max)))
	l = []uint16{0, 1, 2, root - 1, root, root + 1, max/2 - 1, max / 2, max/2 + 1, max - root, max - 2, max - 1, max}
	step := max/37 + 1
	for n := step; n < max-step; n += step {
		l = append(l, n)
	}
	return l
}

func TestNameAndParse(t *testing.T) {
	for _, d := range definitions() {
		if got := operator.Name(d.op); got != d.name {
			t.Errorf("P7.1: Name(%d): %q; want %q", d.op, got, d.name)
		}
		if got, ok := operator.Parse(d.name); got != d.op || !ok {
			t.Errorf("P7.1: Parse(%q): %d, %v; want %d", d.name, got, ok, d.op)
		}
	}
}

func TestNameOfNoOperator(t *testing.T) {
	for _, op := range others() {
		if got := operator.Name(op); got != "" {
			t.Errorf("P7.1: Name(%d): %q; want an empty string", op, got)
		}
	}
}

func TestParseOfNoName(t *testing.T) {
	names := []string{"", " ", "-", "0", "1", "over", "srcover", "src_over", "src over", "source", "in", "normal", "\x00", "clear\x00", "\xff"}
	for _, d := range definitions() {
		names = append(names, strings.ToUpper(d.name), d.name+" ", " "+d.name, d.name+"-", d.name+d.name, d.name[1:], d.name[:len(d.name)-1])
	}
	for _, s := range names {
		if got, ok := operator.Parse(s); got != 0 || ok {
			t.Errorf("P7.1: Parse(%q): %d, %v; want 0, false", s, got, ok)
		}
	}
}

func TestExamples(t *testing.T) {
	if fa, fb, ok := operator.Factors(api.Xor, 255, 64, 255); fa != 191 || fb != 0 || !ok {
		t.Errorf("P7.2: Factors(xor, 255, 64, 255): %d, %d, %v; want 191, 0", fa, fb, ok)
	}
	if got := operator.Alpha(api.SrcOver, 128, 128, 255); got != 192 {
		t.Errorf("P7.2: Alpha(src-over, 128, 128, 255): %d; want 192", got)
	}
	if got := operator.Shape(api.SrcIn, 255, 128, 255); got != 128 {
		t.Errorf("P7.2: Shape(src-in, 255, 128, 255): %d; want 128", got)
	}
}

// Exact halves are rounded up. They need an even max.
func TestTies(t *testing.T) {
	for _, r := range []struct {
		op              int
		x, y, max, want uint16
	}{
		{api.SrcIn, 1, 1, 2, 1}, {api.DstIn, 3, 5, 10, 2}, {api.SrcOver, 1, 1, 2, 2}, {api.DstOver, 5, 5, 10, 8}, {api.Xor, 1, 1, 4, 2},
		{api.SrcIn, 32767, 1, top - 1, 1}, {api.SrcIn, 32766, 1, top - 1, 0}, {api.SrcOver, 32767, 1, top - 1, 32768},
	} {
		if got := operator.Alpha(r.op, r.x, r.y, r.max); got != r.want {
			t.Errorf("P7.2: Alpha(%s, %d, %d, %d): %d; want %d", operator.Name(r.op), r.x, r.y, r.max, got, r.want)
		}
	}
	for _, r := range []struct {
		op              int
		x, y, max, want uint16
	}{
		{api.SrcIn, 1, 1, 2, 1}, {api.DstIn, 3, 5, 10, 2}, {api.SrcOver, 1, 1, 2, 2}, {api.DstOver, 5, 5, 10, 8}, {api.Xor, 1, 1, 2, 2},
		{api.DstIn, 32767, 1, top - 1, 1}, {api.DstIn, 32766, 1, top - 1, 0}, {api.Xor, 32767, 1, top - 1, 32768},
	} {
		if got := operator.Shape(r.op, r.x, r.y, r.max); got != r.want {
			t.Errorf("P7.2: Shape(%s, %d, %d, %d): %d; want %d", operator.Name(r.op), r.x, r.y, r.max, got, r.want)
		}
	}
}

// check holds the three functions of P7.2 against the definition.
func check(t *testing.T, d definition, x, y, max uint16) {
	t.Helper()
	a, b, m := int64(x), int64(y), int64(max)
	fa, fb := d.fa(a, b, m), d.fb(a, b, m)
	if got, back, ok := operator.Factors(d.op, x, y, max); int64(got) != fa || int64(back) != fb || !ok {
		t.Fatalf("P7.2: Factors(%s, %d, %d, %d): %d, %d, %v; want %d, %d", d.name, x, y, max, got, back, ok, fa, fb)
	}
	alpha, shape := operator.Alpha(d.op, x, y, max), operator.Shape(d.op, x, y, max)
	if want := nearest(fa*a+fb*b, m); int64(alpha) != want {
		t.Fatalf("P7.2: Alpha(%s, %d, %d, %d): %d; want %d", d.name, x, y, max, alpha, want)
	}
	if want := d.shape(a, b, m); int64(shape) != want {
		t.Fatalf("P7.2: Shape(%s, %d, %d, %d): %d; want %d", d.name, x, y, max, shape, want)
	}
	if alpha > max || shape > max {
		t.Fatalf("P7.2: the alpha %d or the shape %d of %s is greater than %d", alpha, shape, d.name, max)
	}
}

func TestAll8BitSamples(t *testing.T) {
	for _, d := range definitions() {
		for x := range uint16(256) {
			for y := range uint16(256) {
				check(t, d, x, y, 255)
			}
		}
	}
}

func TestAllMaxima(t *testing.T) {
	for _, d := range definitions() {
		for _, max := range maxima() {
			for _, x := range spread(max) {
				for _, y := range spread(max) {
					check(t, d, x, y, max)
				}
			}
		}
	}
}

// A max of 0 is an exception of Alpha and Shape, but not of Factors.
func TestMaxOfZero(t *testing.T) {
	for _, d := range definitions() {
		if fa, fb, ok := operator.Factors(d.op, 0, 0, 0); fa != 0 || fb != 0 || !ok {
			t.Errorf("P7.2: Factors(%s, 0, 0, 0): %d, %d, %v; want 0, 0, true", d.name, fa, fb, ok)
		}
		if alpha, shape := operator.Alpha(d.op, 0, 0, 0), operator.Shape(d.op, 0, 0, 0); alpha != 0 || shape != 0 {
			t.Errorf("P7.2: Alpha and Shape of %s with a max of 0: %d, %d; want 0, 0", d.name, alpha, shape)
		}
	}
}

// refused checks that P7.2 refuses these arguments.
func refused(t *testing.T, op int, x, y, max uint16) {
	t.Helper()
	if fa, fb, ok := operator.Factors(op, x, y, max); fa != 0 || fb != 0 || ok {
		t.Errorf("P7.2: Factors(%d, %d, %d, %d): %d, %d, %v; want 0, 0, false", op, x, y, max, fa, fb, ok)
	}
	if alpha, shape := operator.Alpha(op, x, y, max), operator.Shape(op, x, y, max); alpha != 0 || shape != 0 {
		t.Errorf("P7.2: Alpha and Shape of (%d, %d, %d, %d): %d, %d; want 0, 0", op, x, y, max, alpha, shape)
	}
}

func TestNoOperator(t *testing.T) {
	for _, op := range others() {
		refused(t, op, 200, 100, 255)
		refused(t, op, 0, 0, 0)
		refused(t, op, top, top, top)
		refused(t, op, 256, 256, 255)
	}
}

func TestSamplesGreaterThanMax(t *testing.T) {
	for _, d := range definitions() {
		for _, max := range []uint16{0, 1, 5, 255, 256, top - 1} {
			refused(t, d.op, max+1, 0, max)
			refused(t, d.op, 0, max+1, max)
			refused(t, d.op, max+1, max, max)
			refused(t, d.op, max, max+1, max)
			refused(t, d.op, top, top, max)
		}
	}
}

func TestNeutralAndFresh(t *testing.T) {
	neutral := " dst src-over dst-over dst-out src-atop xor "
	fresh := " src src-over dst-over src-out dst-atop xor "
	for _, d := range definitions() {
		if got, want := operator.Neutral(d.op), strings.Contains(neutral, " "+d.name+" "); got != want {
			t.Errorf("P7.3: Neutral(%s): %v; want %v", d.name, got, want)
		}
		if got, want := operator.Fresh(d.op), strings.Contains(fresh, " "+d.name+" "); got != want {
			t.Errorf("P7.3: Fresh(%s): %v; want %v", d.name, got, want)
		}
	}
	for _, op := range others() {
		if operator.Neutral(op) || operator.Fresh(op) {
			t.Errorf("P7.3: Neutral(%d), Fresh(%d): %v, %v; want false", op, op, operator.Neutral(op), operator.Fresh(op))
		}
	}
}

// What Neutral and Fresh report is what the other functions do with samples of 0.
func TestNeutralAndFreshAreTrue(t *testing.T) {
	for _, d := range definitions() {
		for _, max := range maxima() {
			neutral, fresh := true, true
			for _, n := range spread(max) {
				_, fb, _ := operator.Factors(d.op, 0, n, max)
				neutral = neutral && fb == max && operator.Alpha(d.op, 0, n, max) == n && operator.Shape(d.op, 0, n, max) == n
				fa, _, _ := operator.Factors(d.op, n, 0, max)
				fresh = fresh && fa == max && operator.Alpha(d.op, n, 0, max) == n && operator.Shape(d.op, n, 0, max) == n
			}
			if got := operator.Neutral(d.op); got != neutral {
				t.Errorf("P7.3: Neutral(%s): %v; with the maximum %d it is %v", d.name, got, max, neutral)
			}
			if got := operator.Fresh(d.op); got != fresh {
				t.Errorf("P7.3: Fresh(%s): %v; with the maximum %d it is %v", d.name, got, max, fresh)
			}
		}
	}
}

func TestAlphaIsAtMostShape(t *testing.T) {
	for _, d := range definitions() {
		for _, max := range []uint16{1, 2, 10, 19, 255, top} {
			alphas := spread(max)
			if max > 19 {
				alphas = alphas[:17]
			}
			for _, a := range alphas {
				for _, b := range alphas {
					for _, f := range alphas {
						for _, g := range alphas {
							if a > f || b > g {
								continue
							}
							if alpha, shape := operator.Alpha(d.op, a, b, max), operator.Shape(d.op, f, g, max); alpha > shape {
								t.Fatalf("P7.2: %s: the alpha %d of %d and %d is greater than the shape %d of %d and %d", d.name, alpha, a, b, shape, f, g)
							}
						}
					}
				}
			}
		}
	}
}
