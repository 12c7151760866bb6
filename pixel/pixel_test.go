package pixel_test

import (
	"math"
	"testing"

	"compositor/api"
	"compositor/blend"
	"compositor/mix"
	"compositor/operator"
	"compositor/pixel"
	"compositor/sample"
)

const top = 65535

// pix returns a pixel.
func pix(c0, c1, c2, a, f uint16) api.Pixel {
	return api.Pixel{C: [3]uint16{c0, c1, c2}, A: a, F: f}
}

// of returns a pixel of five samples.
func of(s [5]uint16) api.Pixel {
	return pix(s[0], s[1], s[2], s[3], s[4])
}

// others returns numbers that are neither operators nor modes; some have the low
// bits of one.
func others() []int {
	l := []int{-256 + 1, 256 + 1, 1<<16 + 2, 1<<32 + 3, math.MinInt, math.MinInt + 4, math.MaxInt, 100}
	for n := range 40 {
		l = append(l, -n, 13+n)
	}
	return l
}

// every calls f for every operator with every mode.
func every(f func(op, mode int)) {
	for op := api.Clear; op <= api.Xor; op++ {
		for mode := api.Normal; mode <= api.Exclusion; mode++ {
			f(op, mode)
		}
	}
}

// spread returns a function that returns numbers up to a limit, all over the
// range.
func spread() func(limit uint16) uint16 {
	n := uint64(1)
	return func(limit uint16) uint16 {
		n = n*6364136223846793005 + 1442695040888963407
		return uint16((n >> 33) % (uint64(limit) + 1))
	}
}

func TestTransparent(t *testing.T) {
	if !pixel.Transparent(api.Pixel{}) {
		t.Error("P9.1: Transparent of a zero pixel: false")
	}
	// One bit of one sample, whether the pixel is valid or not.
	for i := range 5 {
		for bit := range 16 {
			var s [5]uint16
			s[i] = 1 << bit
			if pixel.Transparent(of(s)) {
				t.Errorf("P9.1: Transparent(%v): true", s)
			}
		}
	}
	for _, p := range []api.Pixel{pix(0, 0, 0, 0, 255), pix(0, 0, 0, 255, 255), pix(1, 2, 3, 0, 0), pix(9, 9, 9, 9, 9), pix(top, top, top, top, top)} {
		if pixel.Transparent(p) {
			t.Errorf("P9.1: Transparent(%v): true", p)
		}
	}
}

func TestOpaque(t *testing.T) {
	for _, r := range []struct {
		p    api.Pixel
		max  uint16
		want bool
	}{
		{pix(0, 0, 0, 255, 255), 255, true}, {pix(255, 255, 255, 255, 255), 255, true}, {pix(10, 0, 200, 255, 255), 255, true},
		{pix(0, 0, 0, top, top), top, true}, {pix(top, top, top, top, top), top, true}, {pix(10, 0, 300, top, top), top, true},
		// The alpha is less.
		{pix(0, 0, 0, 0, 0), 255, false}, {pix(0, 0, 0, 0, 255), 255, false}, {pix(10, 0, 200, 254, 255), 255, false}, {pix(10, 0, 200, 254, 254), 255, false},
		{pix(0, 0, 0, 0, 0), top, false}, {pix(0, 0, 0, top-1, top), top, false}, {pix(10, 0, 200, 255, 255), top, false}, {pix(0, 0, 0, 255, top), top, false},
		// The pixel is not valid.
		{pix(256, 0, 0, 255, 255), 255, false}, {pix(0, 256, 0, 255, 255), 255, false}, {pix(0, 0, 256, 255, 255), 255, false},
		{pix(0, 0, 0, 255, 254), 255, false}, {pix(0, 0, 0, 255, 0), 255, false}, {pix(0, 0, 0, 255, 256), 255, false}, {pix(0, 0, 0, 255, top), 255, false}, {pix(0, 0, 0, 256, 256), 255, false},
		{pix(0, 0, 0, top, top), 255, false}, {pix(0, 0, 0, top, top-1), top, false}, {pix(0, 0, 0, top, 0), top, false},
	} {
		if got := pixel.Opaque(r.p, r.max); got != r.want {
			t.Errorf("P9.1: Opaque(%v, %d): %v; want %v", r.p, r.max, got, r.want)
		}
	}
}

// All pixels with samples next to the maximum, with every order of them.
func TestOpaqueOfAllOrders(t *testing.T) {
	for n := range 4 * 4 * 4 * 4 * 4 {
		var s [5]uint16
		for i := range s {
			s[i] = 253 + uint16(n>>(2*i)&3)
		}
		want := s[0] <= 255 && s[1] <= 255 && s[2] <= 255 && s[3] == 255 && s[4] == 255
		if got := pixel.Opaque(of(s), 255); got != want {
			t.Fatalf("P9.1: Opaque(%v, 255): %v; want %v", s, got, want)
		}
	}
}

func TestOpaqueWithMaxOfNoDepth(t *testing.T) {
	for max := range uint16(top) {
		if max == 255 {
			continue
		}
		for _, c := range []uint16{0, max} {
			if pixel.Opaque(pix(c, c, c, max, max), max) {
				t.Fatalf("P9.1: Opaque(%v, %d): true", pix(c, c, c, max, max), max)
			}
		}
	}
}

// The numbers come from the formulas of layers 6 to 8, not from their functions.
func TestExamples(t *testing.T) {
	src, dst := pix(50, 100, 0, 100, 150), pix(80, 0, 200, 200, 220)
	for _, r := range []struct {
		op, mode int
		max      uint16
		src, dst api.Pixel
		want     api.Pixel
	}{
		// The two examples of the chapter.
		{api.SrcOver, api.Normal, 255, pix(7, 8, 9, 255, 255), dst, pix(7, 8, 9, 255, 255)},
		{api.DstOut, api.Normal, 255, pix(7, 8, 9, 255, 255), dst, pix(0, 0, 0, 0, 220)},
		// 50 + 155 * 80 / 255 = 98.6.., 100, 155 * 200 / 255 = 121.5..; alpha 100 + 121.5..; shape 150 + 105 * 220 / 255
		{api.SrcOver, api.Normal, 255, src, dst, pix(99, 100, 122, 222, 241)},
		// (55 * 50 + 50 * 80) / 255 + 155 * 80 / 255 = 75.0.., 55 * 100 / 255 = 21.5.., 121.5..
		{api.SrcOver, api.Multiply, 255, src, dst, pix(75, 22, 122, 222, 241)},
		// T is 10000, 20000, 20000: 55 * (55 * 50 + T) / 65025 + 155 * 80 / 255 = 59.4.., 55 * (55 * 100 + T) / 65025 = 21.5..,
		// 55 * T / 65025 + 121.5.. = 138.4..; alpha 21.5.. + 121.5..
		{api.Xor, api.Exclusion, 255, src, dst, pix(59, 22, 138, 143, 241)},
		// The same T without the backdrop: 10.7.., 21.5.., 16.9..; the shape is that of the source.
		{api.SrcOut, api.Lighten, 255, src, dst, pix(11, 22, 17, 22, 150)},
		// 100 * 80 / 255 = 31.3.., 0, 100 * 200 / 255 = 78.4..; shape 150 * 220 / 255
		{api.DstIn, api.Difference, 255, src, dst, pix(31, 0, 78, 78, 129)},
		{api.Clear, api.Screen, 255, src, dst, api.Pixel{}}, {api.Src, api.Normal, 255, src, dst, src}, {api.Dst, api.ColorBurn, 255, src, dst, dst},
		// Hardly anything of 65535 is covered.
		{api.SrcOver, api.Normal, top, src, dst, pix(130, 100, 200, 300, 369)},
		{api.SrcOver, api.Normal, top, pix(top, 0, 1, top, top), pix(1, 2, 3, 4, 5), pix(top, 0, 1, top, top)},
		// The source has a shape alone.
		{api.SrcOver, api.Normal, 255, pix(0, 0, 0, 0, 255), dst, pix(80, 0, 200, 200, 255)}, {api.Src, api.Normal, 255, pix(0, 0, 0, 0, 255), dst, pix(0, 0, 0, 0, 255)},
	} {
		if got, ok := pixel.Composite(r.op, r.mode, r.max, r.src, r.dst); got != r.want || !ok {
			t.Errorf("P9.2: Composite(%s, %s, %d, %v, %v): %v, %v; want %v", operator.Name(r.op), blend.Name(r.mode), r.max, r.src, r.dst, got, ok, r.want)
		}
	}
}

// check holds Composite against its definition.
func check(t *testing.T, op, mode int, max uint16, src, dst api.Pixel) {
	t.Helper()
	want := api.Pixel{A: operator.Alpha(op, src.A, dst.A, max), F: operator.Shape(op, src.F, dst.F, max)}
	want.C[0], _ = mix.Color(op, mode, max, src.C[0], src.A, dst.C[0], dst.A)
	want.C[1], _ = mix.Color(op, mode, max, src.C[1], src.A, dst.C[1], dst.A)
	want.C[2], _ = mix.Color(op, mode, max, src.C[2], src.A, dst.C[2], dst.A)
	got, ok := pixel.Composite(op, mode, max, src, dst)
	if got != want || !ok {
		t.Fatalf("P9.2: Composite(%s, %s, %d, %v, %v): %v, %v; want %v", operator.Name(op), blend.Name(mode), max, src, dst, got, ok, want)
	}
	if !sample.Valid(got, max) {
		t.Fatalf("P9.2: Composite(%s, %s, %d, %v, %v): %v, which is not valid", operator.Name(op), blend.Name(mode), max, src, dst, got)
	}
}

// edges returns valid pixels with samples at the edges of their ranges; their
// colours differ from each other where they can.
func edges(max uint16) []api.Pixel {
	var l []api.Pixel
	for _, f := range []uint16{0, 1, max / 2, max - 1, max} {
		for _, a := range []uint16{0, 1, f / 3, f - 1, f} {
			if a <= f {
				l = append(l, pix(0, a/2, a, a, f), pix(a, a-a/4, 0, a, f))
			}
		}
	}
	return l
}

func TestEdges(t *testing.T) {
	for _, max := range []uint16{255, top} {
		pixels := edges(max)
		every(func(op, mode int) {
			for _, src := range pixels {
				for _, dst := range pixels {
					check(t, op, mode, max, src, dst)
				}
			}
		})
	}
}

func TestSpread(t *testing.T) {
	for _, max := range []uint16{255, top} {
		next := spread()
		one := func() api.Pixel {
			f := next(max)
			a := next(f)
			return pix(next(a), next(a), next(a), a, f)
		}
		every(func(op, mode int) {
			for range 500 {
				check(t, op, mode, max, one(), one())
			}
		})
	}
}

// A transparent source leaves the backdrop as it is with a neutral operator, and
// on a transparent backdrop a fresh operator gives the source.
func TestTransparentSides(t *testing.T) {
	for _, max := range []uint16{255, top} {
		pixels := edges(max)
		every(func(op, mode int) {
			for _, p := range pixels {
				if got, ok := pixel.Composite(op, mode, max, api.Pixel{}, p); operator.Neutral(op) && (got != p || !ok) {
					t.Errorf("P9.2: Composite(%s, %s, %d, transparent, %v): %v, %v; want the backdrop", operator.Name(op), blend.Name(mode), max, p, got, ok)
				}
				if got, ok := pixel.Composite(op, mode, max, p, api.Pixel{}); operator.Fresh(op) && (got != p || !ok) {
					t.Errorf("P9.2: Composite(%s, %s, %d, %v, transparent): %v, %v; want the source", operator.Name(op), blend.Name(mode), max, p, got, ok)
				}
			}
		})
	}
}

// refused checks that P9.2 refuses these arguments.
func refused(t *testing.T, op, mode int, max uint16, src, dst api.Pixel) {
	t.Helper()
	if got, ok := pixel.Composite(op, mode, max, src, dst); got != (api.Pixel{}) || ok {
		t.Errorf("P9.2: Composite(%d, %d, %d, %v, %v): %v, %v; want zero, false", op, mode, max, src, dst, got, ok)
	}
}

func TestNoOperatorOrMode(t *testing.T) {
	src, dst := pix(60, 0, 100, 100, 200), pix(40, 80, 10, 80, 90)
	for _, n := range others() {
		for m := range 14 {
			refused(t, n, m, 255, src, dst)
			refused(t, m, n, 255, src, dst)
			refused(t, n, m, top, api.Pixel{}, api.Pixel{})
			refused(t, m, n, top, api.Pixel{}, api.Pixel{})
		}
		refused(t, n, n, 255, src, dst)
	}
}

func TestMaxOfNoDepth(t *testing.T) {
	for max := range uint16(top) {
		if max == 255 {
			continue
		}
		op, mode := int(max)%12+1, int(max)/12%12+1
		refused(t, op, mode, max, api.Pixel{}, api.Pixel{})
		refused(t, op, mode, max, pix(max, max/2, 0, max, max), pix(0, max/3, max/2, max/2, max))
	}
	every(func(op, mode int) {
		for _, max := range []uint16{0, 1, 127, 128, 254, 256, 257, 32767, 32768, top - 1} {
			refused(t, op, mode, max, api.Pixel{}, api.Pixel{})
			refused(t, op, mode, max, pix(max, max, max, max, max), pix(max, max, max, max, max))
		}
	})
}

// invalid returns pixels that are not valid for max, each by one sample.
func invalid(max uint16) []api.Pixel {
	l := []api.Pixel{
		pix(1, 0, 0, 0, 0), pix(0, 1, 0, 0, 0), pix(0, 0, 1, 0, 0), pix(0, 0, 0, 1, 0),
		pix(8, 7, 7, 7, 9), pix(7, 8, 7, 7, 9), pix(7, 7, 8, 7, 9), pix(7, 7, 7, 9, 8),
		pix(max, 0, 0, max-1, max), pix(0, max, 0, max-1, max), pix(0, 0, max, max-1, max), pix(0, 0, 0, max, max-1), pix(max, max, max, max, 0),
	}
	if max < top {
		l = append(l, pix(0, 0, 0, 0, max+1), pix(1, 2, 3, max, max+1), pix(0, 0, 0, max+1, max+1), pix(max+1, 0, 0, max+1, max+1), pix(0, 0, 0, 0, top), pix(top, top, top, top, top))
	}
	return l
}

// Pixels that are not valid are refused on both sides, also if the operator does
// not look at that side.
func TestInvalidPixels(t *testing.T) {
	every(func(op, mode int) {
		for _, max := range []uint16{255, top} {
			for _, p := range invalid(max) {
				for _, q := range []api.Pixel{{}, pix(60, 0, 100, 100, 200), pix(max, max, max, max, max), p} {
					refused(t, op, mode, max, p, q)
					refused(t, op, mode, max, q, p)
				}
			}
		}
	})
}
