package blend_test

import (
	"math"
	"math/big"
	"strings"
	"testing"

	"compositor/api"
	"compositor/blend"
	"compositor/surd"
)

const top = 65535

// modes returns the numbers of all modes.
func modes() []int { return []int{1, 2, 3, 4, 5, 6, 7, 8, 9, 10, 11, 12} }

// others returns numbers that are no modes; some have the low bits of one.
func others() []int {
	l := []int{-256 + 1, 256 + 1, 1<<16 + 2, 1<<32 + 3, math.MinInt, math.MinInt + 4, math.MaxInt, 100}
	for n := range 40 {
		l = append(l, -n, 13+n)
	}
	return l
}

// exact returns (p + q * sqrt(r)) / den.
func exact(p, q, r, den uint64) api.Exact {
	return api.Exact{P: api.U128{Lo: p}, Q: q, R: r, Den: den}
}

func TestNameAndParse(t *testing.T) {
	for mode, name := range map[int]string{
		api.Normal: "normal", api.Multiply: "multiply", api.Screen: "screen", api.Overlay: "overlay", api.Darken: "darken", api.Lighten: "lighten",
		api.ColorDodge: "color-dodge", api.ColorBurn: "color-burn", api.HardLight: "hard-light", api.SoftLight: "soft-light", api.Difference: "difference", api.Exclusion: "exclusion",
	} {
		if got := blend.Name(mode); got != name {
			t.Errorf("P6.1: Name(%d): %q; want %q", mode, got, name)
		}
		if got, ok := blend.Parse(name); got != mode || !ok {
			t.Errorf("P6.1: Parse(%q): %d, %v; want %d", name, got, ok, mode)
		}
	}
}

func TestNameOfNoMode(t *testing.T) {
	for _, mode := range others() {
		if got := blend.Name(mode); got != "" {
			t.Errorf("P6.1: Name(%d): %q; want an empty string", mode, got)
		}
	}
}

func TestParseOfNoName(t *testing.T) {
	l := []string{"", " ", "0", "1", "\x00", "dodge", "burn", "light", "hue", "src-over", "color", "colordodge", "color_dodge", "color dodge", "hardlight", "soft-light-", "normal,multiply", "normal multiply", "normalmultiply"}
	for _, mode := range modes() {
		name := blend.Name(mode)
		l = append(l, name+" ", " "+name, name+"\x00", name+"\n", name[1:], name[:len(name)-1], strings.ToUpper(name), strings.ToUpper(name[:1])+name[1:])
	}
	for _, s := range l {
		if got, ok := blend.Parse(s); got != 0 || ok {
			t.Errorf("P6.1: Parse(%q): %d, %v; want 0, false", s, got, ok)
		}
	}
}

// Every case of every mode, and both sides of the conditions between them.
func TestExactExamples(t *testing.T) {
	for _, r := range []struct {
		mode       int
		s, a, d, b uint16
		want       api.Exact
	}{
		{api.Normal, 2, 7, 3, 11, exact(22, 0, 0, 1)},
		{api.Multiply, 2, 7, 3, 11, exact(6, 0, 0, 1)},
		{api.Screen, 2, 7, 3, 11, exact(37, 0, 0, 1)},
		{api.Overlay, 2, 7, 5, 10, exact(20, 0, 0, 1)}, {api.Overlay, 2, 7, 6, 10, exact(30, 0, 0, 1)}, {api.Overlay, 2, 7, 5, 11, exact(20, 0, 0, 1)}, {api.Overlay, 2, 7, 6, 11, exact(27, 0, 0, 1)},
		{api.Darken, 2, 7, 3, 11, exact(21, 0, 0, 1)}, {api.Darken, 2, 7, 4, 11, exact(22, 0, 0, 1)},
		{api.Lighten, 2, 7, 3, 11, exact(22, 0, 0, 1)}, {api.Lighten, 2, 7, 4, 11, exact(28, 0, 0, 1)},
		{api.ColorDodge, 7, 7, 0, 11, exact(0, 0, 0, 1)}, {api.ColorDodge, 2, 7, 0, 11, exact(0, 0, 0, 1)}, {api.ColorDodge, 0, 7, 0, 0, exact(0, 0, 0, 1)},
		{api.ColorDodge, 7, 7, 1, 11, exact(77, 0, 0, 1)}, {api.ColorDodge, 4, 7, 3, 7, exact(49, 0, 0, 1)}, {api.ColorDodge, 4, 7, 2, 7, exact(98, 0, 0, 3)}, {api.ColorDodge, 4, 7, 4, 7, exact(49, 0, 0, 1)},
		{api.ColorDodge, 0, 7, 3, 11, exact(147, 0, 0, 7)}, {api.ColorDodge, 0, 7, 11, 11, exact(77, 0, 0, 1)}, {api.ColorDodge, 1, 2, 1, 4, exact(4, 0, 0, 1)},
		{api.ColorBurn, 0, 7, 11, 11, exact(77, 0, 0, 1)}, {api.ColorBurn, 2, 7, 11, 11, exact(77, 0, 0, 1)}, {api.ColorBurn, 0, 7, 0, 0, exact(0, 0, 0, 1)}, {api.ColorBurn, 0, 7, 10, 11, exact(0, 0, 0, 1)},
		{api.ColorBurn, 3, 7, 4, 7, exact(0, 0, 0, 1)}, {api.ColorBurn, 3, 7, 3, 7, exact(0, 0, 0, 1)}, {api.ColorBurn, 3, 7, 5, 7, exact(49, 0, 0, 3)}, {api.ColorBurn, 7, 7, 3, 11, exact(147, 0, 0, 7)},
		{api.HardLight, 4, 8, 3, 11, exact(24, 0, 0, 1)}, {api.HardLight, 5, 8, 3, 11, exact(40, 0, 0, 1)}, {api.HardLight, 3, 7, 4, 11, exact(24, 0, 0, 1)}, {api.HardLight, 4, 7, 4, 11, exact(35, 0, 0, 1)},
		// 2 * s <= a: the second case, also where d is 0 or 4 * d <= b.
		{api.SoftLight, 4, 8, 3, 10, exact(240, 0, 0, 10)}, {api.SoftLight, 3, 8, 3, 10, exact(198, 0, 0, 10)}, {api.SoftLight, 3, 8, 0, 10, exact(0, 0, 0, 10)}, {api.SoftLight, 0, 0, 3, 10, exact(0, 0, 0, 10)}, {api.SoftLight, 3, 8, 2, 10, exact(128, 0, 0, 10)},
		// 4 * d <= b: the third case.
		{api.SoftLight, 5, 8, 2, 8, exact(1280, 0, 0, 64)}, {api.SoftLight, 5, 8, 0, 8, exact(0, 0, 0, 64)}, {api.SoftLight, 8, 8, 1, 4, exact(256, 0, 0, 16)}, {api.SoftLight, 5, 8, 1, 9, exact(950, 0, 0, 81)},
		// Otherwise the root, also if it is an integer.
		{api.SoftLight, 5, 8, 3, 8, exact(18, 2, 24, 1)}, {api.SoftLight, 5, 8, 2, 7, exact(12, 2, 14, 1)}, {api.SoftLight, 8, 8, 4, 9, exact(0, 8, 36, 1)}, {api.SoftLight, 8, 8, 9, 9, exact(0, 8, 81, 1)},
		{api.SoftLight, 3, 8, 0, 0, exact(0, 0, 0, 1)}, {api.SoftLight, 8, 8, 0, 0, exact(0, 0, 0, 1)}, {api.SoftLight, 0, 0, 0, 0, exact(0, 0, 0, 1)},
		{api.Difference, 2, 7, 3, 11, exact(1, 0, 0, 1)}, {api.Difference, 2, 7, 4, 11, exact(6, 0, 0, 1)}, {api.Difference, 2, 4, 3, 6, exact(0, 0, 0, 1)},
		{api.Exclusion, 2, 7, 3, 11, exact(31, 0, 0, 1)},
		// Products of the greatest samples.
		{api.Normal, top, top, 0, top, exact(top*top, 0, 0, 1)}, {api.Exclusion, top, top, 0, top, exact(top*top, 0, 0, 1)}, {api.Exclusion, top, top, top, top, exact(0, 0, 0, 1)},
		{api.ColorDodge, 0, top, top - 1, top, exact(top*top*(top-1), 0, 0, top)}, {api.SoftLight, 32767, top, top, top, exact(top*top*top, 0, 0, top)},
		{api.SoftLight, top, top, 16384, top, exact(0, top, 16384*top, 1)}, {api.SoftLight, top, top, top, top, exact(0, top, top*top, 1)},
		{api.SoftLight, top, top, 16383, top, exact(top*16383*(16*16383*16383-12*16383*top+4*top*top), 0, 0, top*top)},
	} {
		if got, ok := blend.Exact(r.mode, r.s, r.a, r.d, r.b); got != r.want || !ok {
			t.Errorf("P6.2: Exact(%s, %d, %d, %d, %d): %v, %v; want %v", blend.Name(r.mode), r.s, r.a, r.d, r.b, got, ok, r.want)
		}
	}
}

func TestExactOfInvalidArguments(t *testing.T) {
	refused := func(mode int, s, a, d, b uint16) {
		t.Helper()
		if got, ok := blend.Exact(mode, s, a, d, b); got != (api.Exact{}) || ok {
			t.Errorf("P6.2: Exact(%d, %d, %d, %d, %d): %v, %v; want zero, false", mode, s, a, d, b, got, ok)
		}
	}
	for _, mode := range others() {
		refused(mode, 0, 0, 0, 0)
		refused(mode, 2, 7, 3, 11)
		refused(mode, 7, 2, 11, 3)
	}
	for _, mode := range modes() {
		for _, r := range [][2]uint16{{1, 0}, {8, 7}, {256, 255}, {top, top - 1}, {top, 0}} {
			refused(mode, r[0], r[1], 3, 11)
			refused(mode, 2, 7, r[0], r[1])
			refused(mode, r[0], r[1], 0, 0)
			refused(mode, 0, 0, r[0], r[1])
			refused(mode, r[0], r[1], r[0], r[1])
		}
	}
}

func rat(n, d int64) *big.Rat { return big.NewRat(n, d) }

func sum(x, y *big.Rat) *big.Rat { return new(big.Rat).Add(x, y) }

func sub(x, y *big.Rat) *big.Rat { return new(big.Rat).Sub(x, y) }

func mul(x, y *big.Rat) *big.Rat { return new(big.Rat).Mul(x, y) }

func lesser(x, y *big.Rat) *big.Rat {
	if x.Cmp(y) < 0 {
		return x
	}
	return y
}

func screen(x, y *big.Rat) *big.Rat { return sub(sum(x, y), mul(x, y)) }

// function is the blend function of unpremultiplied colours from 0 to 1; root
// reports that (2 * cs - 1) * sqrt(cb) is to be added.
func function(mode int, cb, cs *big.Rat) (value *big.Rat, root bool) {
	one, two := rat(1, 1), rat(2, 1)
	switch mode {
	case api.Normal:
		return cs, false
	case api.Multiply:
		return mul(cs, cb), false
	case api.Screen:
		return screen(cs, cb), false
	case api.Overlay:
		return function(api.HardLight, cs, cb)
	case api.Darken:
		return lesser(cs, cb), false
	case api.Lighten:
		return sub(sum(cs, cb), lesser(cs, cb)), false
	case api.ColorDodge:
		if cb.Sign() == 0 || cs.Cmp(one) == 0 {
			return rat(int64(cb.Sign()), 1), false
		}
		return lesser(one, new(big.Rat).Quo(cb, sub(one, cs))), false
	case api.ColorBurn:
		if cb.Cmp(one) == 0 || cs.Sign() == 0 {
			return rat(int64(1+cb.Cmp(one)), 1), false
		}
		return sub(one, lesser(one, new(big.Rat).Quo(sub(one, cb), cs))), false
	case api.HardLight:
		if cs.Cmp(rat(1, 2)) <= 0 {
			return mul(cb, mul(two, cs)), false
		}
		return screen(cb, sub(mul(two, cs), one)), false
	case api.SoftLight:
		return softLight(cb, sub(mul(two, cs), one))
	case api.Difference:
		return new(big.Rat).Abs(sub(cs, cb)), false
	default:
		return sub(screen(cs, cb), mul(cs, cb)), false
	}
}

// softLight is the blend function of soft-light, where k is 2 * cs - 1.
func softLight(cb, k *big.Rat) (value *big.Rat, root bool) {
	switch {
	case k.Sign() <= 0:
		return sum(cb, mul(k, mul(cb, sub(rat(1, 1), cb)))), false
	case cb.Cmp(rat(1, 4)) <= 0:
		d := mul(sum(mul(sub(mul(rat(16, 1), cb), rat(12, 1)), cb), rat(4, 1)), cb)
		return sum(cb, mul(k, sub(d, cb))), false
	}
	return sub(cb, mul(k, cb)), true
}

// denominator is the table of P6.2.
func denominator(mode int, s, a, d, b uint64) uint64 {
	switch {
	case mode == api.ColorDodge && d != 0 && d*a < b*(a-s):
		return a - s
	case mode == api.ColorBurn && d != b && (b-d)*a < s*b:
		return s
	case mode == api.SoftLight && b != 0 && 2*s <= a:
		return b
	case mode == api.SoftLight && b != 0 && 4*d <= b:
		return b * b
	}
	return 1
}

// checkExact holds Exact against a * b times the blend function.
func checkExact(t *testing.T, mode int, s, a, d, b uint16) {
	t.Helper()
	got, ok := blend.Exact(mode, s, a, d, b)
	want := api.Exact{Den: denominator(mode, uint64(s), uint64(a), uint64(d), uint64(b))}
	p := new(big.Rat)
	if a != 0 && b != 0 {
		value, root := function(mode, rat(int64(d), int64(b)), rat(int64(s), int64(a)))
		p = mul(value, rat(int64(a)*int64(b), 1))
		if root {
			want.Q, want.R = 2*uint64(s)-uint64(a), uint64(d)*uint64(b)
		}
	}
	p.Mul(p, new(big.Rat).SetInt(new(big.Int).SetUint64(want.Den)))
	if !p.IsInt() || !p.Num().IsUint64() {
		t.Fatalf("the test expects of Exact(%s, %d, %d, %d, %d) a P that is no integer of 64 bits: %v", blend.Name(mode), s, a, d, b, p)
	}
	want.P.Lo = p.Num().Uint64()
	if got != want || !ok || !surd.Valid(got) {
		t.Fatalf("P6.2: Exact(%s, %d, %d, %d, %d): %v, %v; want %v", blend.Name(mode), s, a, d, b, got, ok, want)
	}
	if c, _ := surd.Compare(got, uint64(a)*uint64(b)); c > 0 {
		t.Fatalf("P6.2: Exact(%s, %d, %d, %d, %d): %v is greater than a * b", blend.Name(mode), s, a, d, b, got)
	}
}

// checkPairs checks all modes for all sources and backdrops of these samples.
func checkPairs(t *testing.T, samples []uint16) {
	var pairs [][2]uint16
	for _, c := range samples {
		for _, a := range samples {
			if c <= a {
				pairs = append(pairs, [2]uint16{c, a})
			}
		}
	}
	for _, mode := range modes() {
		for _, source := range pairs {
			for _, backdrop := range pairs {
				checkExact(t, mode, source[0], source[1], backdrop[0], backdrop[1])
			}
		}
	}
}

func TestExactOfSmallSamples(t *testing.T) {
	checkPairs(t, []uint16{0, 1, 2, 3, 4, 5, 6, 7, 8, 9})
}

// Samples next to a quarter, a half and all of both maxima.
func TestExactOfEdges(t *testing.T) {
	checkPairs(t, []uint16{0, 1, 63, 64, 127, 128, 254, 255, 16383, 16384, 32767, 32768, 65534, 65535})
}

func TestOverlayIsHardLightExchanged(t *testing.T) {
	const n = 14
	for i := range uint16(n * n * n * n) {
		s, a, d, b := i%n, i/n%n, i/n/n%n, i/n/n/n
		x, ok := blend.Exact(api.Overlay, s, a, d, b)
		if y, good := blend.Exact(api.HardLight, d, b, s, a); x != y || ok != good {
			t.Fatalf("P6.2: Exact(overlay, %d, %d, %d, %d): %v, %v; hard-light exchanged: %v, %v", s, a, d, b, x, ok, y, good)
		}
	}
}

func TestStraightExamples(t *testing.T) {
	for _, r := range []struct {
		mode              int
		cs, cb, max, want uint16
	}{
		{api.Multiply, 128, 128, 255, 64}, {api.SoftLight, 255, 64, 255, 128}, {api.SoftLight, 255, 63, 255, 127}, {api.SoftLight, 128, 63, 255, 63}, {api.SoftLight, 127, 64, 255, 64},
		// Exact halves are rounded up: 1 / 2, 5 / 10, 15 / 10, 7.5, 1.5 and 2.5.
		{api.Multiply, 1, 1, 2, 1}, {api.Multiply, 1, 5, 10, 1}, {api.Multiply, 3, 5, 10, 2}, {api.Screen, 5, 5, 10, 8}, {api.ColorDodge, 2, 1, 6, 2}, {api.ColorDodge, 2, 1, 3, 3}, {api.ColorBurn, 4, 3, 6, 2}, {api.Exclusion, 5, 3, 10, 5}, {api.SoftLight, 1, 1, 2, 1},
		// The root of 9 * 16 is 12, and the term by 16 is (96 + 6 * cs) / 16, which is 10.5 for 12.
		{api.SoftLight, 2, 1, 2, 1}, {api.SoftLight, 4, 1, 4, 2}, {api.SoftLight, 16, 9, 16, 12}, {api.SoftLight, 13, 9, 16, 11}, {api.SoftLight, 12, 9, 16, 11}, {api.SoftLight, 11, 9, 16, 10},
		// A maximum of 1, the greatest one, and one between.
		{api.Normal, 1, 0, 1, 1}, {api.ColorDodge, 0, 1, 1, 1}, {api.ColorBurn, 1, 0, 1, 0}, {api.ColorBurn, 0, 1, 1, 1}, {api.SoftLight, 1, 1, 1, 1},
		{api.Normal, top, 0, top, top}, {api.Multiply, top, top, top, top}, {api.Multiply, 32768, 32768, top, 16384}, {api.ColorDodge, top - 1, 1, top, top}, {api.ColorDodge, 1, top - 2, top, top - 1}, {api.SoftLight, top, top, top, top}, {api.SoftLight, top, 16384, top, 32768}, {api.SoftLight, top, 16383, top, 32767},
		{api.Difference, 100, 1000, 1000, 900}, {api.Difference, 1000, 100, 1000, 900},
	} {
		if got, ok := blend.Straight(r.mode, r.cs, r.cb, r.max); got != r.want || !ok {
			t.Errorf("P6.3: Straight(%s, %d, %d, %d): %d, %v; want %d", blend.Name(r.mode), r.cs, r.cb, r.max, got, ok, r.want)
		}
	}
}

func TestStraightOfInvalidArguments(t *testing.T) {
	refused := func(mode int, cs, cb, max uint16) {
		t.Helper()
		if got, ok := blend.Straight(mode, cs, cb, max); got != 0 || ok {
			t.Errorf("P6.3: Straight(%d, %d, %d, %d): %d, %v; want 0, false", mode, cs, cb, max, got, ok)
		}
	}
	for _, mode := range others() {
		refused(mode, 200, 100, 255)
		refused(mode, 0, 0, 0)
		refused(mode, 256, 256, 255)
	}
	for _, mode := range modes() {
		for _, max := range []uint16{0, 1, 5, 255, 256, top - 1} {
			refused(mode, max+1, max, max)
			refused(mode, max, max+1, max)
			refused(mode, top, 0, max)
			refused(mode, 0, top, max)
			refused(mode, top, top, max)
		}
		refused(mode, 0, 0, 0)
	}
}

// nearest returns the integer nearest to max times the blend function of cs / max
// and cb / max: (2 * x + 1) / 2, rounded down, where the root may be rounded down
// first because it stands beside integers.
func nearest(mode int, cs, cb, max int64) uint16 {
	value, root := function(mode, rat(cb, max), rat(cs, max))
	x := mul(value, rat(max, 1))
	den := mul(x, rat(max, 1)).Denom() // x * max is an integer but for the quotients
	scale := new(big.Int).Mul(den, big.NewInt(2*max))
	n := mul(sum(x, rat(1, 2)), new(big.Rat).SetInt(scale)).Num()
	if root {
		// (2 * cs - 1) * sqrt(cb) * max is (2 * cs - max) * sqrt(cb * max) / max.
		q := new(big.Int).Mul(big.NewInt(2*(2*cs-max)), den)
		q.Mul(q, q).Mul(q, big.NewInt(cb*max))
		n = new(big.Int).Add(n, q.Sqrt(q))
	}
	return uint16(new(big.Int).Quo(n, scale).Uint64())
}

func checkStraight(t *testing.T, mode int, cs, cb, max uint16) {
	t.Helper()
	want := nearest(mode, int64(cs), int64(cb), int64(max))
	if got, ok := blend.Straight(mode, cs, cb, max); got != want || !ok {
		t.Fatalf("P6.3: Straight(%s, %d, %d, %d): %d, %v; want %d", blend.Name(mode), cs, cb, max, got, ok, want)
	}
}

func TestStraightOf8Bits(t *testing.T) {
	for _, mode := range modes() {
		for cs := range uint16(256) {
			for cb := range uint16(256) {
				// All pairs of the modes with roots or quotients, and a fifth of the others.
				if mode == api.SoftLight || mode == api.ColorDodge || mode == api.ColorBurn || (cs+cb)%5 == 0 {
					checkStraight(t, mode, cs, cb, 255)
				}
			}
		}
	}
}

func TestStraightOfSmallMaxima(t *testing.T) {
	for _, mode := range modes() {
		for max := uint16(1); max < 20; max++ {
			for cs := range max + 1 {
				for cb := range max + 1 {
					checkStraight(t, mode, cs, cb, max)
				}
			}
		}
	}
}

func TestStraightOfGreatMaxima(t *testing.T) {
	for _, mode := range modes() {
		for _, max := range []uint16{256, 1000, 4095, 32767, 32768, top - 1, top} {
			step := max / 11
			for _, cs := range around(max, step) {
				for _, cb := range around(max, step) {
					checkStraight(t, mode, cs, cb, max)
				}
			}
		}
	}
}

// around returns samples at each step, and those next to the quarters of max.
func around(max, step uint16) []uint16 {
	l := []uint16{0, 1, max/4 - 1, max / 4, max/4 + 1, max/2 - 1, max / 2, max/2 + 1, max - max/4, max - 1, max}
	for n := step; n < max-step; n += step {
		l = append(l, n)
	}
	return l
}
