package scale_test

import (
	"testing"

	"compositor/api"
	"compositor/sample"
	"compositor/scale"
)

const top = 65535

// of returns a pixel of five samples.
func of(s [5]uint16) api.Pixel {
	return api.Pixel{C: [3]uint16{s[0], s[1], s[2]}, A: s[3], F: s[4]}
}

// nearest is the definition of layer 1: (2n + d) / 2d, rounded down.
func nearest(n, d uint64) uint16 { return uint16((2*n + d) / (2 * d)) }

// scaled returns the samples that P11.1 asks for.
func scaled(s [5]uint16, k, max uint16) [5]uint16 {
	for i, x := range s {
		s[i] = nearest(uint64(x)*uint64(k), uint64(max))
	}
	return s
}

// spread returns a function that returns numbers up to a limit, all over the
// range.
func spread() func(limit uint16) uint16 {
	n := uint64(1)
	return func(limit uint16) uint16 {
		n = n*6364136223846793005 + 1442695040888963407
		return uint16((n >> 33) % (uint64(limit) + 1))
	}
}

// valid returns the samples of a valid pixel.
func valid(next func(uint16) uint16, max uint16) [5]uint16 {
	f := next(max)
	a := next(f)
	return [5]uint16{next(a), next(a), next(a), a, f}
}

// checkPixel holds Pixel of a valid pixel against its formula.
func checkPixel(t *testing.T, s [5]uint16, k, max uint16) {
	t.Helper()
	want := of(scaled(s, k, max))
	if got, ok := scale.Pixel(of(s), k, max); got != want || !ok {
		t.Fatalf("P11.1: Pixel(%v, %d, %d): %v, %v; want %v, true", s, k, max, got, ok, want)
	}
}

// checkBoth holds Both of a valid pixel against two steps of the formula.
func checkBoth(t *testing.T, s [5]uint16, mask, opacity, max uint16) {
	t.Helper()
	want := of(scaled(scaled(s, mask, max), opacity, max))
	if got, ok := scale.Both(of(s), mask, opacity, max); got != want || !ok {
		t.Fatalf("P11.2: Both(%v, %d, %d, %d): %v, %v; want %v, true", s, mask, opacity, max, got, ok, want)
	}
}

// refusePixel checks that P11.1 refuses these arguments.
func refusePixel(t *testing.T, s [5]uint16, k, max uint16) {
	t.Helper()
	if got, ok := scale.Pixel(of(s), k, max); got != (api.Pixel{}) || ok {
		t.Fatalf("P11.1: Pixel(%v, %d, %d): %v, %v; want zeros and false", s, k, max, got, ok)
	}
}

// refuseBoth checks that P11.2 refuses these arguments.
func refuseBoth(t *testing.T, s [5]uint16, mask, opacity, max uint16) {
	t.Helper()
	if got, ok := scale.Both(of(s), mask, opacity, max); got != (api.Pixel{}) || ok {
		t.Fatalf("P11.2: Both(%v, %d, %d, %d): %v, %v; want zeros and false", s, mask, opacity, max, got, ok)
	}
}

func TestPixelExamples(t *testing.T) {
	for _, r := range []struct {
		s      [5]uint16
		k, max uint16
		want   [5]uint16
	}{
		// The example of the chapter.
		{[5]uint16{100, 0, 50, 200, 255}, 128, 255, [5]uint16{50, 0, 25, 100, 128}},
		// 127 / 255 and 128 / 255 are on the two sides of 1 / 2.
		{[5]uint16{1, 1, 1, 1, 1}, 127, 255, [5]uint16{}}, {[5]uint16{1, 1, 1, 1, 1}, 128, 255, [5]uint16{1, 1, 1, 1, 1}},
		{[5]uint16{1, 0, 3, 5, 7}, 127, 255, [5]uint16{0, 0, 1, 2, 3}}, {[5]uint16{1, 0, 3, 5, 7}, 128, 255, [5]uint16{1, 0, 2, 3, 4}},
		{[5]uint16{1, 2, 3, 4, 5}, 32767, top, [5]uint16{0, 1, 1, 2, 2}}, {[5]uint16{1, 2, 3, 4, 5}, 32768, top, [5]uint16{1, 1, 2, 2, 3}},
		// A factor of 1 leaves of a sample whether it is more than half of max.
		{[5]uint16{0, 1, 127, 128, 255}, 1, 255, [5]uint16{0, 0, 0, 1, 1}}, {[5]uint16{0, 255, 32767, 32768, top}, 1, top, [5]uint16{0, 0, 0, 1, 1}},
		// One less than max takes 1 from the samples that are more than half of it.
		{[5]uint16{0, 1, 127, 128, 255}, 254, 255, [5]uint16{0, 1, 127, 127, 254}}, {[5]uint16{0, 1, 32767, 32768, top}, top - 1, top, [5]uint16{0, 1, 32767, 32767, top - 1}},
		// A shape without alpha.
		{[5]uint16{0, 0, 0, 0, 255}, 85, 255, [5]uint16{0, 0, 0, 0, 85}}, {[5]uint16{0, 0, 0, 0, 4}, 21845, top, [5]uint16{0, 0, 0, 0, 1}},
		// Samples of 8 bits have with 16 bits another maximum.
		{[5]uint16{100, 0, 50, 200, 255}, 128, top, [5]uint16{0, 0, 0, 0, 0}}, {[5]uint16{100, 0, 50, 200, 255}, 32896, top, [5]uint16{50, 0, 25, 100, 128}},
		{[5]uint16{40_000, 1, 2, 50_000, top}, 32768, top, [5]uint16{20_000, 1, 1, 25_000, 32768}},
		// The products need 16 and 32 bits.
		{[5]uint16{255, 254, 253, 255, 255}, 255, 255, [5]uint16{255, 254, 253, 255, 255}}, {[5]uint16{top, top - 1, top - 2, top, top}, top, top, [5]uint16{top, top - 1, top - 2, top, top}},
	} {
		if got, ok := scale.Pixel(of(r.s), r.k, r.max); got != of(r.want) || !ok {
			t.Errorf("P11.1: Pixel(%v, %d, %d): %v, %v; want %v, true", r.s, r.k, r.max, got, ok, r.want)
		}
	}
}

// Each place of a pixel gets every sample with every factor.
func TestPixelOf8Bits(t *testing.T) {
	for k := range uint16(256) {
		for n := range uint16(256) {
			checkPixel(t, [5]uint16{0, 0, 0, 0, n}, k, 255)
			checkPixel(t, [5]uint16{0, 0, 0, n, 255}, k, 255)
			checkPixel(t, [5]uint16{n, 0, n / 2, n, n}, k, 255)
			checkPixel(t, [5]uint16{n / 3, n, 255 - n, 255, 255}, k, 255)
		}
	}
}

// All samples with the factors around which rounding changes, and the reverse.
func TestPixelOf16Bits(t *testing.T) {
	edges := []uint16{0, 1, 2, 3, 127, 128, 255, 256, 257, 21845, 32767, 32768, 32769, 43690, top - 2, top - 1, top}
	for n := range 1 << 16 {
		for _, e := range edges {
			x := uint16(n)
			checkPixel(t, [5]uint16{x, x / 2, 0, x, top}, e, top)
			checkPixel(t, [5]uint16{0, e / 2, e, e, top}, x, top)
		}
	}
}

func TestPixelSpread(t *testing.T) {
	next := spread()
	for range 300_000 {
		checkPixel(t, valid(next, 255), next(255), 255)
		checkPixel(t, valid(next, top), next(top), top)
	}
}

// The factors where a product passes half of a multiple of max, for many samples.
func TestPixelAtItsSteps(t *testing.T) {
	next := spread()
	for range 100_000 {
		x := next(top-1) + 1
		q := next(x)
		// The last factor of which x makes at most q, and the first one that makes more.
		k := (uint64(q)*top + 32767) / uint64(x)
		for _, k := range []uint64{k, k + 1} {
			if k <= top {
				checkPixel(t, [5]uint16{x, x, x, x, x}, uint16(k), top)
			}
		}
	}
}

func TestScalingByMaxAndBy0(t *testing.T) {
	next := spread()
	for _, max := range []uint16{255, top} {
		for range 5000 {
			s := valid(next, max)
			if got, ok := scale.Pixel(of(s), max, max); got != of(s) || !ok {
				t.Fatalf("P11.1: Pixel(%v, %d, %d): %v, %v; want the same pixel", s, max, max, got, ok)
			}
			if got, ok := scale.Pixel(of(s), 0, max); got != (api.Pixel{}) || !ok {
				t.Fatalf("P11.1: Pixel(%v, 0, %d): %v, %v; want zeros and true", s, max, got, ok)
			}
			if got, ok := scale.Both(of(s), max, max, max); got != of(s) || !ok {
				t.Fatalf("P11.2: Both(%v, %d, %d, %d): %v, %v; want the same pixel", s, max, max, max, got, ok)
			}
			for _, k := range [][2]uint16{{0, 0}, {0, max}, {max, 0}, {0, next(max)}, {next(max), 0}} {
				if got, ok := scale.Both(of(s), k[0], k[1], max); got != (api.Pixel{}) || !ok {
					t.Fatalf("P11.2: Both(%v, %d, %d, %d): %v, %v; want zeros and true", s, k[0], k[1], max, got, ok)
				}
			}
		}
	}
}

func TestResultsAreValid(t *testing.T) {
	next := spread()
	for range 100_000 {
		for _, max := range []uint16{255, top} {
			s, k, opacity := valid(next, max), next(max), next(max)
			if got, ok := scale.Pixel(of(s), k, max); !sample.Valid(got, max) || !ok {
				t.Fatalf("P11.1: Pixel(%v, %d, %d): %v, %v; want a valid pixel", s, k, max, got, ok)
			}
			if got, ok := scale.Both(of(s), k, opacity, max); !sample.Valid(got, max) || !ok {
				t.Fatalf("P11.2: Both(%v, %d, %d, %d): %v, %v; want a valid pixel", s, k, opacity, max, got, ok)
			}
		}
	}
}

// In each row one rounding alone, or the factors in the other order, would give
// something else.
func TestBothExamples(t *testing.T) {
	for _, r := range []struct {
		s                  [5]uint16
		mask, opacity, max uint16
		want               [5]uint16
	}{
		// 1 * 128 / 255 gives 1, twice; in one step it would be 0.2519..
		{[5]uint16{1, 1, 1, 1, 1}, 128, 128, 255, [5]uint16{1, 1, 1, 1, 1}}, {[5]uint16{1, 1, 1, 1, 1}, 32768, 32768, top, [5]uint16{1, 1, 1, 1, 1}},
		// 3 * 43 / 255 = 0.505.. gives 1, and 1 * 213 / 255 = 0.8.. gives 1; in one step it would be 0.42..
		{[5]uint16{3, 0, 3, 3, 3}, 43, 213, 255, [5]uint16{1, 0, 1, 1, 1}},
		// 5 * 120 / 255 = 2.3.. gives 2, and 2 * 60 / 255 = 0.47.. gives 0; in one step it would be 0.55..
		{[5]uint16{5, 5, 5, 5, 5}, 120, 60, 255, [5]uint16{}},
		// 3 * 130 / 255 = 1.52.. gives 2, and 2 * 60 / 255 = 0.47.. gives 0.
		{[5]uint16{3, 3, 3, 3, 3}, 130, 60, 255, [5]uint16{}},
		// The other way: 3 * 60 / 255 = 0.7.. gives 1, and 1 * 130 / 255 = 0.509.. gives 1; in one step it would be 0.35..
		{[5]uint16{3, 3, 3, 3, 3}, 60, 130, 255, [5]uint16{1, 1, 1, 1, 1}},
		// 3 * 33410 / 65535 = 1.52.. gives 2, and 2 * 15420 / 65535 = 0.47.. gives 0; the other way it is 1, as with 8 bits.
		{[5]uint16{3, 0, 3, 3, 3}, 33410, 15420, top, [5]uint16{}}, {[5]uint16{3, 0, 3, 3, 3}, 15420, 33410, top, [5]uint16{1, 0, 1, 1, 1}},
	} {
		if got, ok := scale.Both(of(r.s), r.mask, r.opacity, r.max); got != of(r.want) || !ok {
			t.Errorf("P11.2: Both(%v, %d, %d, %d): %v, %v; want %v, true", r.s, r.mask, r.opacity, r.max, got, ok, r.want)
		}
	}
}

func TestBothOf8Bits(t *testing.T) {
	for mask := range uint16(256) {
		for opacity := range uint16(256) {
			for _, n := range []uint16{1, 2, 3, 77, 127, 128, 200, 254, 255} {
				checkBoth(t, [5]uint16{n, n / 2, n / 3, n, 255}, mask, opacity, 255)
			}
		}
	}
}

func TestBothSpread(t *testing.T) {
	next := spread()
	for range 300_000 {
		checkBoth(t, valid(next, 255), next(255), next(255), 255)
		checkBoth(t, valid(next, top), next(top), next(top), top)
	}
}

func TestMaxOfNoDepth(t *testing.T) {
	for max := range uint16(top) {
		if max == 255 {
			continue
		}
		for _, n := range []uint16{0, max / 2, max} {
			refusePixel(t, [5]uint16{}, n, max)
			refusePixel(t, [5]uint16{n / 2, 0, n, n, max}, n, max)
			refuseBoth(t, [5]uint16{}, n, max, max)
			refuseBoth(t, [5]uint16{n / 2, 0, n, n, max}, n, n, max)
		}
	}
}

// Each row breaks one condition, also where the factors leave nothing of it.
func TestPixelsThatAreNotValid(t *testing.T) {
	rows := func(max uint16) [][5]uint16 {
		return [][5]uint16{
			{1, 0, 0, 0, 0}, {0, 1, 0, 0, 0}, {0, 0, 1, 0, 0}, {0, 0, 0, 1, 0}, {0, 0, 0, 100, 99}, {0, 0, 0, max, max - 1},
			{101, 100, 100, 100, 200}, {100, 101, 100, 100, 200}, {100, 100, 101, 100, 200}, {100, 0, 50, 99, 255}, {max, 0, 0, max - 1, max}, {0, max, 0, 0, max}, {0, 0, max, 1, max},
		}
	}
	refuse := func(s [5]uint16, max uint16) {
		for _, k := range []uint16{0, 1, 128, max} {
			refusePixel(t, s, k, max)
			refuseBoth(t, s, k, max, max)
			refuseBoth(t, s, max, k, max)
			refuseBoth(t, s, k, 0, max)
			refuseBoth(t, s, 0, k, max)
		}
	}
	for _, max := range []uint16{255, top} {
		for _, s := range rows(max) {
			refuse(s, max)
		}
	}
	// These are valid with 16 bits.
	for _, s := range [][5]uint16{{0, 0, 0, 0, 256}, {1, 0, 0, 1, 300}, {0, 0, 0, 256, 256}, {256, 256, 256, 256, 256}, {0, 0, 256, 256, top}, {top, top, top, top, top}} {
		refuse(s, 255)
	}
}

func TestFactorsAboveMax(t *testing.T) {
	for k := uint16(256); k != 0; k++ {
		for _, s := range [][5]uint16{{}, {0, 0, 0, 0, 1}, {100, 0, 50, 200, 255}, {255, 255, 255, 255, 255}} {
			refusePixel(t, s, k, 255)
			for _, n := range []uint16{0, 1, 255, k} {
				refuseBoth(t, s, k, n, 255)
				refuseBoth(t, s, n, k, 255)
			}
		}
	}
}

// The caller's pixel stays as it is, though the samples are reached by pointers.
func TestArgumentsAreNotChanged(t *testing.T) {
	s := [5]uint16{100, 0, 50, 200, 255}
	p := of(s)
	scale.Pixel(p, 128, 255)
	scale.Both(p, 128, 7, 255)
	if p != of(s) {
		t.Errorf("P11.1: the argument is now %v; it was %v", p, of(s))
	}
}
