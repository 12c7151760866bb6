package mix_test

import (
	"math"
	"math/big"
	"testing"

	"compositor/api"
	"compositor/blend"
	"compositor/mix"
	"compositor/operator"
	"compositor/surd"
)

const top = 65535

// others returns numbers that are neither operators nor modes; some have the low
// bits of one.
func others() []int {
	l := []int{-256 + 1, 256 + 1, 1<<16 + 2, 1<<32 + 3, math.MinInt, math.MinInt + 4, math.MaxInt, 100}
	for n := range 40 {
		l = append(l, -n, 13+n)
	}
	return l
}

// every calls f for every operator with every mode.
func every(f func(op, mode int)) {
	for op := api.Clear; op <= api.Xor; op++ {
		for mode := api.Normal; mode <= api.Exclusion; mode++ {
			f(op, mode)
		}
	}
}

// exact returns (p + q * sqrt(r)) / den.
func exact(p, q, r, den uint64) api.Exact {
	return api.Exact{P: api.U128{Lo: p}, Q: q, R: r, Den: den}
}

func TestExamples(t *testing.T) {
	for _, r := range []struct {
		op, mode        int
		max, s, a, d, b uint16
		want            uint16
	}{
		{api.SrcOver, api.Normal, 255, 100, 128, 50, 255, 125},
		{api.Clear, api.Screen, 255, 9, 9, 9, 9, 0},
		{api.SrcOver, api.SoftLight, 255, 255, 255, 64, 255, 128},
		// Only one side has colour.
		{api.SrcOver, api.ColorBurn, 255, 77, 99, 0, 0, 77}, {api.SrcOver, api.ColorDodge, 255, 0, 0, 77, 99, 77},
		{api.DstOver, api.Difference, top, 777, 9999, 0, 0, 777}, {api.Xor, api.SoftLight, top, 0, 0, 777, 9999, 777},
		// Opaque on opaque: the blend function alone.
		{api.SrcOver, api.Multiply, 255, 128, 255, 128, 255, 64}, {api.SrcAtop, api.Multiply, top, 32768, top, 32768, top, 16384},
		{api.SrcIn, api.Lighten, 255, 3, 255, 200, 255, 200}, {api.SrcOver, api.Darken, 255, 3, 255, 200, 255, 3},
		// (200 * (55 * 50 + 50 * 200) + 155 * 80 * 255) / 65025 = 87.8..
		{api.SrcAtop, api.Normal, 255, 50, 100, 80, 200, 88},
		// T = 50 * 200 + 80 * 100 - 50 * 80: (55 * (55 * 50 + 14000) + 100 * 80 * 255) / 65025 = 45.5..
		{api.DstAtop, api.Screen, 255, 50, 100, 80, 200, 46},
		// 50 + 155 * 80 / 255 = 98.6..
		{api.SrcOver, api.Normal, 255, 50, 100, 80, 200, 99},
		// The greatest samples.
		{api.SrcOver, api.Normal, top, top, top, top, top, top}, {api.SrcOver, api.SoftLight, top, top, top, top, top, top}, {api.SrcOver, api.SoftLight, top, 0, top, top, top, top},
		{api.SrcOver, api.Exclusion, top, top, top, top, top, 0}, {api.Xor, api.Normal, top, top, top, top, top, 0}, {api.SrcOver, api.Normal, 255, 255, 255, 255, 255, 255},
	} {
		if got, ok := mix.Color(r.op, r.mode, r.max, r.s, r.a, r.d, r.b); got != r.want || !ok {
			t.Errorf("P8.1: Color(%s, %s, %d, %d, %d, %d, %d): %d, %v; want %d", operator.Name(r.op), blend.Name(r.mode), r.max, r.s, r.a, r.d, r.b, got, ok, r.want)
		}
	}
}

// Exact halves are rounded up. They need an even Den of the blend term.
func TestTies(t *testing.T) {
	for _, r := range []struct {
		op, mode        int
		max, s, a, d, b uint16
		want            uint16
	}{
		// 255 * 255 * 1 / 2 / 255 = 127.5, and 65535 / 2.
		{api.SrcOver, api.ColorDodge, 255, 253, 255, 1, 255, 128}, {api.SrcIn, api.ColorDodge, top, top - 2, top, 1, top, 32768},
		// 255 - 1 * 255 / 2 = 127.5, and 65535 / 2.
		{api.SrcAtop, api.ColorBurn, 255, 2, 255, 254, 255, 128}, {api.SrcOver, api.ColorBurn, top, 2, top, top - 1, top, 32768},
	} {
		x, _ := mix.Value(r.op, r.mode, r.max, r.s, r.a, r.d, r.b)
		if x.P.Hi != 0 || 2*(x.P.Lo%x.Den) != x.Den {
			t.Errorf("%s %s is no tie: %v", operator.Name(r.op), blend.Name(r.mode), x)
		}
		if got, ok := mix.Color(r.op, r.mode, r.max, r.s, r.a, r.d, r.b); got != r.want || !ok {
			t.Errorf("P8.1: Color(%s, %s, %d, %d, %d, %d, %d): %d, %v; want %d", operator.Name(r.op), blend.Name(r.mode), r.max, r.s, r.a, r.d, r.b, got, ok, r.want)
		}
	}
}

// Fractions are not reduced, and a factor of 0 leaves R as it is.
func TestValueExamples(t *testing.T) {
	for _, r := range []struct {
		op, mode        int
		max, s, a, d, b uint16
		want            api.Exact
	}{
		{api.Clear, api.Normal, 255, 100, 128, 50, 255, exact(0, 0, 0, 65025)},
		{api.SrcOver, api.Multiply, 255, 0, 0, 0, 0, exact(0, 0, 0, 65025)},
		// xor: 244 * (244 * 2 + 6) + 248 * 3 * 255
		{api.Xor, api.Multiply, 255, 2, 7, 3, 11, exact(310_256, 0, 0, 65025)},
		// src-over, T = 147 / 7: 255 * (244 * 0 * 7 + 147) + 248 * 3 * 255 * 7
		{api.SrcOver, api.ColorDodge, 255, 0, 7, 3, 11, exact(1_365_525, 0, 0, 65025*7)},
		// src-in, T = 49 / 3: 7 * (248 * 3 * 3 + 49)
		{api.SrcIn, api.ColorBurn, 255, 3, 7, 5, 7, exact(15_967, 0, 0, 65025*3)},
		// src-atop, T = 198 / 10: 10 * (245 * 3 * 10 + 198) + 247 * 3 * 255 * 10
		{api.SrcAtop, api.SoftLight, 255, 3, 8, 3, 10, exact(1_965_030, 0, 0, 65025*10)},
		// src, T = 1280 / 64: 255 * (247 * 5 * 64 + 1280)
		{api.Src, api.SoftLight, 255, 5, 8, 2, 8, exact(20_481_600, 0, 0, 65025*64)},
		// dst-over, T = 18 + 2 * sqrt(24): 247 * (247 * 5 + 18) + 255 * 3 * 255
		{api.DstOver, api.SoftLight, 255, 5, 8, 3, 8, exact(504_566, 494, 24, 65025)},
		// The factor of the source is 0.
		{api.Clear, api.SoftLight, 255, 5, 8, 3, 8, exact(0, 0, 24, 65025)}, {api.DstOut, api.SoftLight, 255, 5, 8, 3, 8, exact(247*3*255, 0, 24, 65025)}, {api.DstIn, api.ColorDodge, 255, 0, 7, 3, 11, exact(7*3*255*7, 0, 0, 65025*7)},
		// A Den of almost 2^64, and a P of more: top * (25535 * top * 40000 * 40000).
		{api.SrcOver, api.SoftLight, top, top, top, 0, top, exact(0, 0, 0, top*top*top*top)},
		{api.Src, api.SoftLight, top, top, top, 0, 40000, api.Exact{P: api.U128{Hi: 9512, Lo: 4_399_179_474_745_028_608}, Den: top * top * 40000 * 40000}},
	} {
		if got, ok := mix.Value(r.op, r.mode, r.max, r.s, r.a, r.d, r.b); got != r.want || !ok {
			t.Errorf("P8.1: Value(%s, %s, %d, %d, %d, %d, %d): %v, %v; want %v", operator.Name(r.op), blend.Name(r.mode), r.max, r.s, r.a, r.d, r.b, got, ok, r.want)
		}
	}
}

// refused checks that P8.1 refuses these arguments.
func refused(t *testing.T, op, mode int, max, s, a, d, b uint16) {
	t.Helper()
	if got, ok := mix.Color(op, mode, max, s, a, d, b); got != 0 || ok {
		t.Errorf("P8.1: Color(%d, %d, %d, %d, %d, %d, %d): %d, %v; want 0, false", op, mode, max, s, a, d, b, got, ok)
	}
	if got, ok := mix.Value(op, mode, max, s, a, d, b); got != (api.Exact{}) || ok {
		t.Errorf("P8.1: Value(%d, %d, %d, %d, %d, %d, %d): %v, %v; want zero, false", op, mode, max, s, a, d, b, got, ok)
	}
}

func TestNoOperatorOrMode(t *testing.T) {
	for _, n := range others() {
		for m := range 14 {
			refused(t, n, m, 255, 100, 128, 50, 255)
			refused(t, m, n, 255, 100, 128, 50, 255)
			refused(t, n, m, top, 0, 0, 0, 0)
			refused(t, m, n, top, 0, 0, 0, 0)
		}
		refused(t, n, n, 255, 0, 0, 0, 0)
	}
}

func TestMaxOfNoDepth(t *testing.T) {
	for max := range uint16(top) {
		if max == 255 {
			continue
		}
		op, mode := int(max)%12+1, int(max)/12%12+1
		refused(t, op, mode, max, 0, 0, 0, 0)
		refused(t, op, mode, max, max/2, max, max/3, max/2)
	}
	every(func(op, mode int) {
		for _, max := range []uint16{0, 1, 127, 128, 254, 256, 257, 32767, 32768, top - 1} {
			refused(t, op, mode, max, 0, 0, 0, 0)
			refused(t, op, mode, max, max, max, max, max)
		}
	})
}

func TestSamplesThatAreNotPermitted(t *testing.T) {
	every(func(op, mode int) {
		for _, max := range []uint16{255, top} {
			for _, r := range [][2]uint16{{1, 0}, {8, 7}, {255, 254}, {max, max - 1}, {max, 0}} {
				refused(t, op, mode, max, r[0], r[1], 0, 0)
				refused(t, op, mode, max, 0, 0, r[0], r[1])
				refused(t, op, mode, max, r[0], r[1], 3, 11)
				refused(t, op, mode, max, 3, 11, r[0], r[1])
				refused(t, op, mode, max, r[0], r[1], r[0], r[1])
			}
		}
		for _, r := range [][2]uint16{{0, 256}, {256, 256}, {255, 256}, {0, top}, {top, top}} {
			refused(t, op, mode, 255, r[0], r[1], 0, 0)
			refused(t, op, mode, 255, 0, 0, r[0], r[1])
			refused(t, op, mode, 255, r[0], r[1], r[0], r[1])
		}
	})
}

func number(n uint64) *big.Int { return new(big.Int).SetUint64(n) }

// product returns the product of these numbers.
func product(l ...uint64) *big.Int {
	p := big.NewInt(1)
	for _, n := range l {
		p.Mul(p, number(n))
	}
	return p
}

// whole returns u.
func whole(u api.U128) *big.Int {
	n := new(big.Int).Lsh(number(u.Hi), 64)
	return n.Add(n, number(u.Lo))
}

// rounded returns the integer nearest to x (ties up): (2 * P + 2 * Q * sqrt(R) +
// Den) / (2 * Den), rounded down. Its root may be rounded down first, because
// everything else is an integer.
func rounded(x api.Exact) *big.Int {
	n := product(4, x.Q, x.Q, x.R)
	n.Sqrt(n)
	n.Add(n, new(big.Int).Lsh(whole(x.P), 1))
	n.Add(n, number(x.Den))
	return n.Div(n, product(2, x.Den))
}

// check holds Value and Color against the formulas of the chapter.
func check(t *testing.T, op, mode int, max, s, a, d, b uint16) {
	t.Helper()
	fail := func(promise, name string, got any, ok bool, want any) {
		t.Helper()
		t.Fatalf("%s: %s(%s, %s, %d, %d, %d, %d, %d): %v, %v; want %v", promise, name, operator.Name(op), blend.Name(mode), max, s, a, d, b, got, ok, want)
	}
	fa, fb, _ := operator.Factors(op, a, b, max)
	term, _ := blend.Exact(mode, s, a, d, b)
	p := product(uint64(max-b), uint64(s), term.Den)
	p.Add(p, whole(term.P))
	p.Mul(p, number(uint64(fa)))
	p.Add(p, product(uint64(fb), uint64(d), uint64(max), term.Den))

	got, ok := mix.Value(op, mode, max, s, a, d, b)
	if whole(got.P).Cmp(p) != 0 || !ok || !surd.Valid(got) {
		fail("P8.1", "Value", got, ok, p)
	}
	den := product(uint64(max), uint64(max), term.Den)
	if got.Q != uint64(fa)*term.Q || got.R != term.R || number(got.Den).Cmp(den) != 0 {
		fail("P8.1", "Value", got, ok, den)
	}
	color, ok := mix.Color(op, mode, max, s, a, d, b)
	if want := rounded(got); number(uint64(color)).Cmp(want) != 0 || !ok {
		fail("P8.1", "Color", color, ok, want)
	}
	if alpha := operator.Alpha(op, a, b, max); color > alpha {
		fail("P8.2", "Color", color, ok, alpha)
	}
	// The composite times max, against the exact alpha times max.
	got.Den /= uint64(max)
	alpha := uint64(fa)*uint64(a) + uint64(fb)*uint64(b)
	if c, ok := surd.Compare(got, alpha); c > 0 || !ok {
		fail("P8.2", "Value", got, ok, alpha)
	}
}

// checkPairs checks all operators and modes for all sources and backdrops of
// these samples.
func checkPairs(t *testing.T, max uint16, samples []uint16) {
	var pairs [][2]uint16
	for _, c := range samples {
		for _, a := range samples {
			if c <= a {
				pairs = append(pairs, [2]uint16{c, a})
			}
		}
	}
	every(func(op, mode int) {
		for _, x := range pairs {
			for _, y := range pairs {
				check(t, op, mode, max, x[0], x[1], y[0], y[1])
			}
		}
	})
}

func TestSmallSamples(t *testing.T) {
	checkPairs(t, 255, []uint16{0, 1, 2, 3, 4, 5, 7, 8})
	checkPairs(t, top, []uint16{0, 1, 2, 4, 5, 9})
}

func Test8Bits(t *testing.T) {
	checkPairs(t, 255, []uint16{0, 1, 31, 64, 127, 128, 200, 254, 255})
}

func Test16Bits(t *testing.T) {
	checkPairs(t, top, []uint16{0, 255, 16383, 16384, 32767, 32768, top - 1, top})
}

// Sources and backdrops all over the range, with every operator and mode.
func TestSpread(t *testing.T) {
	for _, max := range []uint16{255, top} {
		n := uint64(1)
		next := func(limit uint16) uint16 {
			n = n*6364136223846793005 + 1442695040888963407
			return uint16((n >> 33) % (uint64(limit) + 1))
		}
		every(func(op, mode int) {
			for range 1000 {
				a, b := next(max), next(max)
				check(t, op, mode, max, next(a), a, next(b), b)
			}
		})
	}
}

// A transparent source leaves the backdrop as it is with a neutral operator, and
// on a transparent backdrop a fresh operator gives the source.
func TestTransparentSides(t *testing.T) {
	every(func(op, mode int) {
		for _, max := range []uint16{255, top} {
			for _, c := range []uint16{0, 1, max / 4, max / 2, max/2 + 1, max - 1, max} {
				for _, a := range []uint16{c, max - (max-c)/2, max} {
					if got, ok := mix.Color(op, mode, max, 0, 0, c, a); operator.Neutral(op) && (got != c || !ok) {
						t.Errorf("P8.1: Color(%s, %s, %d, 0, 0, %d, %d): %d, %v; want %d", operator.Name(op), blend.Name(mode), max, c, a, got, ok, c)
					}
					if got, ok := mix.Color(op, mode, max, c, a, 0, 0); operator.Fresh(op) && (got != c || !ok) {
						t.Errorf("P8.1: Color(%s, %s, %d, %d, %d, 0, 0): %d, %v; want %d", operator.Name(op), blend.Name(mode), max, c, a, got, ok, c)
					}
				}
			}
		}
	})
}
