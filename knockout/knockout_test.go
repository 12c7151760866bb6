package knockout_test

import (
	"math"
	"math/big"
	"testing"

	"compositor/api"
	"compositor/blend"
	"compositor/knockout"
	"compositor/mix"
	"compositor/operator"
)

const top = 65535

// others returns numbers that are no modes; some have the low bits of one.
func others() []int {
	l := []int{-256 + 1, 256 + 1, 1<<16 + 2, 1<<32 + 3, math.MinInt, math.MinInt + 4, math.MaxInt, 100}
	for n := range 40 {
		l = append(l, -n, 13+n)
	}
	return l
}

// every calls f for every mode with both maxima.
func every(f func(mode int, max uint16)) {
	for mode := api.Normal; mode <= api.Exclusion; mode++ {
		f(mode, 255)
		f(mode, top)
	}
}

// spread returns a function that returns numbers up to a limit, all over the
// range.
func spread() func(limit uint16) uint16 {
	n := uint64(1)
	return func(limit uint16) uint16 {
		n = n*6364136223846793005 + 1442695040888963407
		return uint16((n >> 33) % (uint64(limit) + 1))
	}
}

// The numbers come from the formulas of layers 6 and 10, not from their functions.
func TestColorExamples(t *testing.T) {
	for _, r := range []struct {
		mode                  int
		max, s, a, f, c, d, b uint16
		want                  uint16
	}{
		// The two examples of the chapter, and an element with a shape alone.
		{api.Normal, 255, 0, 0, 255, 77, 33, 44, 33}, {api.SoftLight, top, 0, 0, top, 777, 333, 444, 333}, {api.ColorBurn, top, 0, 0, top, top, 0, top, 0},
		{api.Multiply, 255, 0, 0, 0, 77, 33, 44, 77}, {api.ColorDodge, top, 0, 0, 0, 777, 333, 444, 777}, {api.Normal, top, 0, 0, 0, top, 0, 0, top},
		// (155 * 77 + 100 * 33) / 255 = 59.7..
		{api.Screen, 255, 0, 0, 100, 77, 33, 44, 60},
		// 155 * 200 + 20 * 33 + 211 * 50 = 42210, with T = 50 * 44: 174.1..
		{api.Normal, 255, 50, 80, 100, 200, 33, 44, 174},
		// The same with T = 50 * 33: 172.0..
		{api.Multiply, 255, 50, 80, 100, 200, 33, 44, 172},
		// With T = 50 * 44 + 33 * 80 - 50 * 33: 178.0..
		{api.Screen, 255, 50, 80, 100, 200, 33, 44, 178},
		// With T = 80 * 44 - 2 * (44 - 33) * (80 - 50): 176.7..
		{api.Overlay, 255, 50, 80, 100, 200, 33, 44, 177}, {api.HardLight, 255, 50, 80, 100, 200, 33, 44, 177},
		// With T = the lesser and the greater one of 2200 and 2640: 174.1.. and 175.8.., and their difference: 167.2..
		{api.Darken, 255, 50, 80, 100, 200, 33, 44, 174}, {api.Lighten, 255, 50, 80, 100, 200, 33, 44, 176}, {api.Difference, 255, 50, 80, 100, 200, 33, 44, 167},
		// With T = 2200 + 2640 - 2 * 50 * 33: 171.5..
		{api.Exclusion, 255, 50, 80, 100, 200, 33, 44, 172},
		// With T = 80 * 44, as 33 * 80 >= 44 * 30: 179.3..
		{api.ColorDodge, 255, 50, 80, 100, 200, 33, 44, 179},
		// With T = 80 * 44 - 11 * 80 * 80 / 50: 173.8..
		{api.ColorBurn, 255, 50, 80, 100, 200, 33, 44, 174},
		// T = 18 + 2 * sqrt(24) = 27.7..: 247 * 110 + 247 * 5 + T = 111.501.. * 255, which would be 111.498.. without its fraction.
		{api.SoftLight, 255, 5, 8, 8, 110, 3, 8, 112},
		// T = 147 / 7 and 49 / 3: (55 * 9 + 193 * 3 + 0 + 21) / 255 = 4.2.. and (55 * 9 + 193 * 5 + 248 * 3 + 16.3..) / 255 = 8.7..
		{api.ColorDodge, 255, 0, 7, 200, 9, 3, 11, 4}, {api.ColorBurn, 255, 3, 7, 200, 9, 5, 7, 9},
		// An opaque element: the blend function alone, whatever c is.
		{api.Multiply, 255, 128, 255, 255, 9, 128, 255, 64}, {api.Normal, top, 777, top, top, 9, 888, 999, 777}, {api.SoftLight, 255, 255, 255, 255, 7, 64, 255, 128},
		// The colour is above every alpha beneath it.
		{api.Normal, 255, 0, 0, 0, 255, 0, 0, 255}, {api.Normal, 255, 0, 0, 1, 255, 0, 0, 254},
		// The greatest samples.
		{api.Normal, top, top, top, top, top, top, top, top}, {api.SoftLight, top, 0, top, top, top, top, top, top}, {api.Difference, top, top, top, top, top, top, top, 0}, {api.Screen, 255, 255, 255, 255, 255, 255, 255, 255},
		// 65535 * 40000 + 25535 * 65535, and 25535 * 65535 alone.
		{api.Normal, top, top, top, top, 0, 0, 40000, top}, {api.SoftLight, top, top, top, top, 0, 0, 40000, 25535},
	} {
		if got, ok := knockout.Color(r.mode, r.max, r.s, r.a, r.f, r.c, r.d, r.b); got != r.want || !ok {
			t.Errorf("P10.1: Color(%s, %d, %d, %d, %d, %d, %d, %d): %d, %v; want %d", blend.Name(r.mode), r.max, r.s, r.a, r.f, r.c, r.d, r.b, got, ok, r.want)
		}
	}
}

// Exact halves are rounded up. They need an even Den of the blend term.
func TestTies(t *testing.T) {
	for _, r := range []struct {
		mode                  int
		max, s, a, f, c, d, b uint16
		want                  uint16
	}{
		// 255 * 255 * 1 / 2 / 255 = 127.5, and 65535 / 2.
		{api.ColorDodge, 255, 253, 255, 255, 9, 1, 255, 128}, {api.ColorDodge, top, top - 2, top, top, 9, 1, top, 32768},
		// 255 - 1 * 255 / 2 = 127.5, and 65535 / 2.
		{api.ColorBurn, 255, 2, 255, 255, 9, 254, 255, 128}, {api.ColorBurn, top, 2, top, top, 9, top - 1, top, 32768},
		// 195 * 29 + 49 * 5 + 175 * 9 + 11 * 11 * 5 / 2 = 30.5 * 255
		{api.ColorDodge, 255, 9, 11, 60, 29, 5, 80, 31},
	} {
		if got, ok := knockout.Color(r.mode, r.max, r.s, r.a, r.f, r.c, r.d, r.b); got != r.want || !ok {
			t.Errorf("P10.1: Color(%s, %d, %d, %d, %d, %d, %d, %d): %d, %v; want %d", blend.Name(r.mode), r.max, r.s, r.a, r.f, r.c, r.d, r.b, got, ok, r.want)
		}
	}
}

func TestAlphaAndOwnExamples(t *testing.T) {
	for _, r := range []struct{ max, a, f, acc, b, alpha, own uint16 }{
		// The element has a shape alone: it removes what was there.
		{255, 0, 255, 77, 33, 33, 0}, {top, 0, top, 777, 333, 333, 0},
		// It has no shape.
		{255, 0, 0, 77, 33, 77, 77}, {top, 0, 0, 777, 333, 777, 777},
		// 80 + 175 * 44 / 255 = 110.1..
		{255, 80, 255, 200, 44, 110, 80},
		// (155 * 200 + 20 * 44 + 255 * 80) / 255 = 205.01.., and without 20 * 44: 201.5..
		{255, 80, 100, 200, 44, 205, 202},
		// 127 * 255 + 127 * 1 and 127 * 255 + 128 * 1 are on the two sides of 127.5 * 255.
		{255, 0, 127, 254, 0, 127, 127}, {255, 0, 127, 0, 1, 0, 0}, {255, 0, 128, 0, 1, 1, 0},
		{top, 0, 32767, 0, 1, 0, 0}, {top, 0, 32768, 0, 1, 1, 0}, {top, 0, 32768, 1, 0, 0, 0}, {top, 0, 32767, 1, 0, 1, 1},
		// It is opaque, and everything is.
		{255, 255, 255, 1, 2, 255, 255}, {top, top, top, 1, 2, top, top}, {255, 255, 255, 255, 255, 255, 255}, {top, top, top, top, top, top, top},
		{255, 0, 0, 255, 255, 255, 255}, {top, 0, 0, top, top, top, top}, {top, 0, 0, 0, top, 0, 0}, {top, 0, top, 0, top, top, 0},
		{top, 1, 1, top, 0, top, top}, {top, 0, 1, top, 0, top - 1, top - 1}, {255, 0, 0, 0, 0, 0, 0}, {top, 0, 0, 0, 0, 0, 0},
	} {
		if got, ok := knockout.Alpha(r.max, r.a, r.f, r.acc, r.b); got != r.alpha || !ok {
			t.Errorf("P10.2: Alpha(%d, %d, %d, %d, %d): %d, %v; want %d", r.max, r.a, r.f, r.acc, r.b, got, ok, r.alpha)
		}
		if got, ok := knockout.Own(r.max, r.a, r.f, r.acc); got != r.own || !ok {
			t.Errorf("P10.2: Own(%d, %d, %d, %d): %d, %v; want %d", r.max, r.a, r.f, r.acc, got, ok, r.own)
		}
	}
}

func number(n uint64) *big.Int { return new(big.Int).SetUint64(n) }

// plus adds the product of these numbers to sum.
func plus(sum *big.Int, l ...uint64) {
	p := big.NewInt(1)
	for _, n := range l {
		p.Mul(p, number(n))
	}
	sum.Add(sum, p)
}

// exactColor returns the integer nearest to the number of P10.1: it is (N + Q *
// sqrt(R)) / D, and the result is (2 * N + D + 2 * Q * sqrt(R)) / (2 * D), rounded
// down. Its root may be rounded down first, because all else is an integer.
func exactColor(mode int, max, s, a, f, c, d, b uint16) *big.Int {
	x, _ := blend.Exact(mode, s, a, d, b)
	n := new(big.Int).Lsh(number(x.P.Hi), 64)
	n.Add(n, number(x.P.Lo))
	plus(n, uint64(max-f), uint64(c), x.Den)
	plus(n, uint64(f-a), uint64(d), x.Den)
	plus(n, uint64(max-b), uint64(s), x.Den)
	n.Lsh(n, 1)
	plus(n, uint64(max), x.Den)
	root := new(big.Int)
	plus(root, 4, x.Q, x.Q, x.R)
	n.Add(n, root.Sqrt(root))
	twice := new(big.Int)
	plus(twice, 2, uint64(max), x.Den)
	return n.Div(n, twice)
}

// checkColor holds Color against the formula of the chapter.
func checkColor(t *testing.T, mode int, max, s, a, f, c, d, b uint16) {
	t.Helper()
	want := exactColor(mode, max, s, a, f, c, d, b)
	if got, ok := knockout.Color(mode, max, s, a, f, c, d, b); number(uint64(got)).Cmp(want) != 0 || !ok {
		t.Fatalf("P10.1: Color(%s, %d, %d, %d, %d, %d, %d, %d): %d, %v; want %v", blend.Name(mode), max, s, a, f, c, d, b, got, ok, want)
	}
}

// checkAll checks all elements and backdrops of these samples.
func checkAll(t *testing.T, mode int, max uint16, samples []uint16) {
	for _, a := range samples {
		for _, f := range samples {
			for _, b := range samples {
				for _, s := range samples {
					for _, d := range samples {
						if s > a || a > f || d > b {
							continue
						}
						for _, c := range samples {
							checkColor(t, mode, max, s, a, f, c, d, b)
						}
					}
				}
			}
		}
	}
}

func TestColorOfSmallSamples(t *testing.T) {
	every(func(mode int, max uint16) {
		checkAll(t, mode, max, []uint16{0, 1, 2, 3, 5, 8})
	})
}

func TestColorAtTheEdges(t *testing.T) {
	every(func(mode int, max uint16) {
		checkAll(t, mode, max, []uint16{0, 1, max / 4, max / 2, max/2 + 1, max - 1, max})
	})
}

func TestColorSpread(t *testing.T) {
	next := spread()
	every(func(mode int, max uint16) {
		for range 20_000 {
			f, b := next(max), next(max)
			a := next(f)
			checkColor(t, mode, max, next(a), a, f, next(max), next(b), b)
		}
	})
}

// nearest is the definition of layer 1: (2n + d) / 2d, rounded down.
func nearest(n, d uint64) uint64 { return (2*n + d) / (2 * d) }

// checkAlpha holds Alpha against the formula of the chapter.
func checkAlpha(t *testing.T, max, a, f, acc, b uint16) {
	t.Helper()
	sum := uint64(max-f)*uint64(acc) + uint64(f-a)*uint64(b) + uint64(max)*uint64(a)
	want := nearest(sum, uint64(max))
	if got, ok := knockout.Alpha(max, a, f, acc, b); uint64(got) != want || !ok {
		t.Fatalf("P10.2: Alpha(%d, %d, %d, %d, %d): %d, %v; want %d", max, a, f, acc, b, got, ok, want)
	}
}

// checkOwn holds Own against the formula of the chapter.
func checkOwn(t *testing.T, max, a, f, own uint16) {
	t.Helper()
	want := nearest(uint64(max-f)*uint64(own)+uint64(max)*uint64(a), uint64(max))
	if got, ok := knockout.Own(max, a, f, own); uint64(got) != want || !ok {
		t.Fatalf("P10.2: Own(%d, %d, %d, %d): %d, %v; want %d", max, a, f, own, got, ok, want)
	}
}

func TestAlphaAndOwnOf8Bits(t *testing.T) {
	samples := []uint16{0, 1, 2, 31, 77, 127, 128, 200, 254, 255}
	for f := range uint16(256) {
		for a := range f + 1 {
			for n := range uint16(256) {
				checkOwn(t, 255, a, f, n)
			}
			for _, acc := range samples {
				for _, b := range samples {
					checkAlpha(t, 255, a, f, acc, b)
				}
			}
		}
	}
}

func TestAlphaAndOwnOf16Bits(t *testing.T) {
	samples := []uint16{0, 1, 2, 255, 256, 16384, 32767, 32768, 50_000, top - 2, top - 1, top}
	for _, f := range samples {
		for _, a := range samples {
			if a > f {
				continue
			}
			for _, acc := range samples {
				checkOwn(t, top, a, f, acc)
				for _, b := range samples {
					checkAlpha(t, top, a, f, acc, b)
				}
			}
		}
	}
	next := spread()
	for range 500_000 {
		f := next(top)
		a := next(f)
		checkAlpha(t, top, a, f, next(top), next(top))
		checkOwn(t, top, a, f, next(top))
	}
}

// If c is at most acc, the colour is at most the alpha.
func TestColorIsAtMostAlpha(t *testing.T) {
	next := spread()
	every(func(mode int, max uint16) {
		for range 20_000 {
			f, b, acc := next(max), next(max), next(max)
			a := next(f)
			// These are so great that many reach what limits them.
			s, c, d := max-max/2+next(max/2), max-max/2+next(max/2), max-max/2+next(max/2)
			s, c, d = min(s, a), min(c, acc), min(d, b)
			color, _ := knockout.Color(mode, max, s, a, f, c, d, b)
			if alpha, _ := knockout.Alpha(max, a, f, acc, b); color > alpha {
				t.Fatalf("P10.1: Color(%s, %d, %d, %d, %d, %d, %d, %d): %d; the alpha is %d", blend.Name(mode), max, s, a, f, c, d, b, color, alpha)
			}
		}
	})
}

// If f is max, the results do not depend on what was accumulated; they are those
// of src-over on the initial backdrop.
func TestFullShape(t *testing.T) {
	next := spread()
	every(func(mode int, max uint16) {
		for range 5000 {
			a, b := next(max), next(max)
			s, d := next(a), next(b)
			color, _ := mix.Color(api.SrcOver, mode, max, s, a, d, b)
			alpha := operator.Alpha(api.SrcOver, a, b, max)
			for _, n := range []uint16{0, 1, max / 2, next(max), max} {
				if got, ok := knockout.Color(mode, max, s, a, max, n, d, b); got != color || !ok {
					t.Fatalf("P10.1: Color(%s, %d, %d, %d, %d, %d, %d, %d): %d, %v; want %d", blend.Name(mode), max, s, a, max, n, d, b, got, ok, color)
				}
				if got, ok := knockout.Alpha(max, a, max, n, b); got != alpha || !ok {
					t.Fatalf("P10.2: Alpha(%d, %d, %d, %d, %d): %d, %v; want %d", max, a, max, n, b, got, ok, alpha)
				}
				if got, ok := knockout.Own(max, a, max, n); got != a || !ok {
					t.Fatalf("P10.2: Own(%d, %d, %d, %d): %d, %v; want %d", max, a, max, n, got, ok, a)
				}
			}
		}
	})
}

// On the untouched backdrop the results are those of src-over, for every shape.
func TestUntouchedBackdrop(t *testing.T) {
	next := spread()
	every(func(mode int, max uint16) {
		for range 5000 {
			a, b := next(max), next(max)
			s, d := next(a), next(b)
			color, _ := mix.Color(api.SrcOver, mode, max, s, a, d, b)
			alpha := operator.Alpha(api.SrcOver, a, b, max)
			for _, f := range []uint16{a, a + next(max-a), max} {
				if got, ok := knockout.Color(mode, max, s, a, f, d, d, b); got != color || !ok {
					t.Fatalf("P10.1: Color(%s, %d, %d, %d, %d, %d, %d, %d): %d, %v; want %d", blend.Name(mode), max, s, a, f, d, d, b, got, ok, color)
				}
				if got, ok := knockout.Alpha(max, a, f, b, b); got != alpha || !ok {
					t.Fatalf("P10.2: Alpha(%d, %d, %d, %d, %d): %d, %v; want %d", max, a, f, b, b, got, ok, alpha)
				}
				if got, ok := knockout.Own(max, a, f, 0); got != a || !ok {
					t.Fatalf("P10.2: Own(%d, %d, %d, 0): %d, %v; want %d", max, a, f, got, ok, a)
				}
			}
		}
	})
}

// refuseColor checks that P10.1 refuses these arguments.
func refuseColor(t *testing.T, mode int, max, s, a, f, c, d, b uint16) {
	t.Helper()
	if got, ok := knockout.Color(mode, max, s, a, f, c, d, b); got != 0 || ok {
		t.Errorf("P10.1: Color(%d, %d, %d, %d, %d, %d, %d, %d): %d, %v; want 0, false", mode, max, s, a, f, c, d, b, got, ok)
	}
}

// refuseAlpha checks that P10.2 refuses these arguments.
func refuseAlpha(t *testing.T, max, a, f, acc, b uint16) {
	t.Helper()
	if got, ok := knockout.Alpha(max, a, f, acc, b); got != 0 || ok {
		t.Errorf("P10.2: Alpha(%d, %d, %d, %d, %d): %d, %v; want 0, false", max, a, f, acc, b, got, ok)
	}
}

// refuseOwn checks that P10.2 refuses these arguments.
func refuseOwn(t *testing.T, max, a, f, own uint16) {
	t.Helper()
	if got, ok := knockout.Own(max, a, f, own); got != 0 || ok {
		t.Errorf("P10.2: Own(%d, %d, %d, %d): %d, %v; want 0, false", max, a, f, own, got, ok)
	}
}

func TestNoMode(t *testing.T) {
	for _, mode := range others() {
		refuseColor(t, mode, 255, 50, 80, 100, 200, 33, 44)
		refuseColor(t, mode, 255, 0, 0, 0, 0, 0, 0)
		refuseColor(t, mode, top, 50, 80, 100, 200, 33, 44)
		refuseColor(t, mode, top, 0, 0, 0, 77, 0, 0)
	}
}

func TestMaxOfNoDepth(t *testing.T) {
	for max := range uint16(top) {
		if max == 255 {
			continue
		}
		for _, n := range []uint16{0, max / 2, max} {
			refuseColor(t, int(max)%12+1, max, 0, 0, 0, n, 0, 0)
			refuseColor(t, int(max)%12+1, max, n/2, n, max, n, n/3, n)
			refuseAlpha(t, max, 0, 0, 0, 0)
			refuseAlpha(t, max, n, max, n, n)
			refuseOwn(t, max, 0, 0, 0)
			refuseOwn(t, max, n, max, n)
		}
	}
}

// Each row breaks one condition, except where it says more.
func TestColorOfSamplesThatAreNotPermitted(t *testing.T) {
	every(func(mode int, max uint16) {
		for _, r := range [][6]uint16{
			// s > a
			{1, 0, 0, 0, 0, 0}, {81, 80, 100, 90, 33, 44}, {max, max - 1, max, max, max, max}, {90, 80, 100, 90, 33, 44}, {1, 0, max, max, 33, 44},
			// a > f
			{0, 1, 0, 0, 0, 0}, {50, 80, 79, 90, 33, 44}, {0, max, max - 1, max, max, max}, {max, max, max - 1, 0, 0, 0}, {50, 80, 0, 90, 33, 44},
			// d > b
			{0, 0, 0, 0, 1, 0}, {50, 80, 100, 90, 45, 44}, {max, max, max, max, max, max - 1}, {0, 0, 0, 90, 200, 44}, {50, 80, 100, 90, max, 0},
		} {
			refuseColor(t, mode, max, r[0], r[1], r[2], r[3], r[4], r[5])
		}
		for _, r := range [][6]uint16{
			// f > max, the last two with a > max as well
			{0, 0, 256, 0, 0, 0}, {50, 80, 256, 90, 33, 44}, {50, 80, top, 90, 33, 44}, {50, 255, 256, 90, 33, 44}, {50, 256, 256, 90, 33, 44}, {top, top, top, 90, 33, 44},
			// c > max
			{0, 0, 0, 256, 0, 0}, {50, 80, 100, 256, 33, 44}, {0, 0, 255, 256, 33, 44}, {50, 80, 100, top, 33, 44},
			// b > max
			{0, 0, 0, 0, 0, 256}, {50, 80, 100, 90, 33, 256}, {50, 80, 100, 90, 255, 256}, {50, 80, 100, 90, 256, 256}, {50, 80, 100, 90, top, top}, {0, 0, 0, 90, 0, top},
			// all of them
			{256, 256, 256, 256, 256, 256}, {top, top, top, top, top, top},
		} {
			refuseColor(t, mode, 255, r[0], r[1], r[2], r[3], r[4], r[5])
		}
	})
}

func TestAlphasThatAreNotPermitted(t *testing.T) {
	for _, max := range []uint16{255, top} {
		for _, r := range [][2]uint16{{1, 0}, {6, 5}, {80, 79}, {max, max - 1}, {max, 0}} {
			for _, n := range []uint16{0, 77, max} {
				refuseAlpha(t, max, r[0], r[1], n, 0)
				refuseAlpha(t, max, r[0], r[1], n, max)
				refuseOwn(t, max, r[0], r[1], n)
			}
		}
	}
	for _, n := range []uint16{256, 257, 511, 512, 32768, top} {
		for _, f := range []uint16{0, 100, 255} {
			refuseAlpha(t, 255, 0, f, n, 0)
			refuseAlpha(t, 255, 0, f, 0, n)
			refuseAlpha(t, 255, f, f, n, n)
			refuseOwn(t, 255, 0, f, n)
			refuseOwn(t, 255, f, f, n)
			refuseAlpha(t, 255, f, n, 44, 33)
			refuseAlpha(t, 255, n, n, 0, f)
			refuseOwn(t, 255, f, n, 44)
			refuseOwn(t, 255, n, n, f)
		}
	}
}
