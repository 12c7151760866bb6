package unit_test

import (
	"math"
	"math/big"
	"testing"

	"compositor/unit"
)

// maxima returns values of max around the places where the results change kind:
// 0 and 1, the maxima of both depths, powers of two, and odd and even numbers.
func maxima() []uint16 {
	return []uint16{0, 1, 2, 3, 5, 6, 10, 100, 254, 255, 256, 257, 1000, 4095, 4096, 12345, 32767, 32768, 32769, 43690, 65534, 65535}
}

// next and previous return the neighbours of x.
func next(x float64) float64     { return math.Nextafter(x, math.Inf(1)) }
func previous(x float64) float64 { return math.Nextafter(x, math.Inf(-1)) }

// nearest returns the integer nearest to x * max (ties up) for an x from 0 to 1:
// (2 * x * max + 1) / 2, rounded down, in rational numbers.
func nearest(x float64, max uint16) uint16 {
	r := new(big.Rat).SetFloat64(x)
	r.Mul(r, big.NewRat(2*int64(max), 1))
	r.Add(r, big.NewRat(1, 1))
	twice := new(big.Int).Lsh(r.Denom(), 1)
	return uint16(new(big.Int).Div(r.Num(), twice).Uint64())
}

// check holds FromFloat of an x from 0 to 1 against math/big.
func check(t *testing.T, x float64, max uint16) {
	t.Helper()
	want := nearest(x, max)
	if got, ok := unit.FromFloat(x, max); got != want || !ok {
		t.Fatalf("P4.1: FromFloat(%b, %d): %d, %v; want %d", x, max, got, ok, want)
	}
}

func TestFromFloatExamples(t *testing.T) {
	for _, r := range []struct {
		x    float64
		max  uint16
		want uint16
	}{
		{0.5, 255, 128}, {previous(0.5), 255, 127}, {next(0.5), 255, 128}, {0.5, 65535, 32768}, {previous(0.5), 65535, 32767},
		{0.25, 255, 64}, {0.75, 255, 191}, {0.25, 2, 1}, {previous(0.25), 2, 0}, {0.75, 2, 2}, {previous(0.75), 2, 1},
		{1.0 / 3, 3, 1}, {0.1, 5, 1}, {previous(0.1), 5, 0}, {0.3, 5, 1}, {0.7, 5, 3}, {0.9, 5, 5},
		{1.0 / 255, 255, 1}, {254.0 / 255, 255, 254}, {0.002, 255, 1}, {0.0019, 255, 0},
		{1.0 / (1 << 16), 32768, 1}, {previous(1.0 / (1 << 16)), 32768, 0}, {1.0 / (1 << 17), 65535, 0}, {1.0 / (1 << 16), 65535, 1},
		{previous(1), 65535, 65535}, {previous(1), 255, 255}, {previous(1), 1, 1}, {0.5, 1, 1}, {previous(0.5), 1, 0}, {0.5, 0, 0},
	} {
		if got, ok := unit.FromFloat(r.x, r.max); got != r.want || !ok {
			t.Errorf("P4.1: FromFloat(%v, %d): %d, %v; want %d", r.x, r.max, got, ok, r.want)
		}
	}
}

func TestFromFloatOutside(t *testing.T) {
	for _, max := range maxima() {
		for _, x := range []float64{0, math.Copysign(0, -1), math.Inf(-1), -math.MaxFloat64, -1, -0.75, -math.SmallestNonzeroFloat64, previous(-1), -2.5, -1e-300} {
			if got, ok := unit.FromFloat(x, max); got != 0 || !ok {
				t.Errorf("P4.1: FromFloat(%v, %d): %d, %v; want 0", x, max, got, ok)
			}
		}
		for _, x := range []float64{1, next(1), 1.5, 2, 2.5, 255, 65536, 1 << 48, 1 << 63, 1e300, math.MaxFloat64, math.Inf(1)} {
			if got, ok := unit.FromFloat(x, max); got != max || !ok {
				t.Errorf("P4.1: FromFloat(%v, %d): %d, %v; want %d", x, max, got, ok, max)
			}
		}
	}
}

func TestFromFloatOfNoNumber(t *testing.T) {
	for _, max := range maxima() {
		for _, bits := range []uint64{0x7ff8000000000001, 0x7ff8000000000000, 0xfff8000000000000, 0x7ff0000000000001, 0xfff0000000000001, 0x7fffffffffffffff, 0xffffffffffffffff} {
			if got, ok := unit.FromFloat(math.Float64frombits(bits), max); got != 0 || ok {
				t.Errorf("P4.1: FromFloat of the bits %x, which are no number, and %d: %d, %v", bits, max, got, ok)
			}
		}
	}
}

// Every exponent below 1, among them that of the subnormal numbers, with
// significands of all shapes.
func TestFromFloatOfAllExponents(t *testing.T) {
	const most = 1<<52 - 1
	for exponent := range uint64(1023) {
		for _, significand := range []uint64{0, 1, 2, 1 << 51, 1<<51 - 1, 1<<51 + 1, 0x5555555555555, 0xaaaaaaaaaaaaa, 1 << 36, 1<<36 - 1, most - 1, most} {
			x := math.Float64frombits(exponent<<52 | significand)
			for _, max := range maxima() {
				check(t, x, max)
			}
		}
	}
}

// For a max that is a power of two, all numbers halfway between two samples are
// floating-point numbers: the ties are exact, and their neighbours are not ties.
func TestFromFloatOfAllTies(t *testing.T) {
	for k := range 16 {
		max := uint16(1) << k
		for v := range max {
			tie := (float64(v) + 0.5) / float64(max)
			for i, x := range []float64{previous(tie), tie, next(tie)} {
				want := v
				if i > 0 {
					want++
				}
				if got, ok := unit.FromFloat(x, max); got != want || !ok {
					t.Fatalf("P4.1: FromFloat(%b, %d): %d, %v; want %d", x, max, got, ok, want)
				}
			}
		}
	}
}

// An odd max has one tie, at 1/2.
func TestFromFloatOfAHalf(t *testing.T) {
	for m := range 1 << 16 {
		max := uint16(m)
		if got, ok := unit.FromFloat(0.5, max); int(got) != (m+1)/2 || !ok {
			t.Fatalf("P4.1: FromFloat(0.5, %d): %d, %v; want %d", max, got, ok, (m+1)/2)
		}
		if got, ok := unit.FromFloat(previous(0.5), max); int(got) != m/2 || !ok {
			t.Fatalf("P4.1: FromFloat of the number before 0.5 and %d: %d, %v; want %d", max, got, ok, m/2)
		}
	}
}

// The floating-point numbers around those halfway between two samples: there a
// product that is rounded to 53 bits gives another integer.
func TestFromFloatNextToTheMiddle(t *testing.T) {
	for _, max := range maxima() {
		for v := 0; v < int(max); v += 1 + int(max)/500 {
			x := float64(2*v+1) / float64(2*int(max))
			for _, y := range []float64{previous(previous(x)), previous(x), x, next(x), next(next(x))} {
				check(t, y, max)
			}
		}
	}
}

func TestFromFloatNeverDecreases(t *testing.T) {
	for _, max := range maxima() {
		last := uint16(0)
		for i := range 100_001 {
			x := float64(i-1000) / 98_765
			got, ok := unit.FromFloat(x, max)
			if got < last || got > max || !ok {
				t.Fatalf("P4.1: FromFloat(%v, %d): %d, %v after %d", x, max, got, ok, last)
			}
			last = got
		}
		if last != max {
			t.Fatalf("P4.1: FromFloat of numbers up to 1 ends at %d of %d", last, max)
		}
	}
}

func TestToFloatExamples(t *testing.T) {
	for _, r := range []struct {
		v, max uint16
		want   float64
	}{{128, 255, 0x1.0101010101010p-1}, {1, 3, 0x1.5555555555555p-2}, {2, 3, 0x1.5555555555555p-1}, {1, 5, 0x1.999999999999ap-3}, {1, 2, 0.5}, {1, 1, 1}, {255, 255, 1}, {65535, 65535, 1}, {1, 65535, 0x1.0001000100010p-16}, {16384, 32768, 0.5}} {
		if got, ok := unit.ToFloat(r.v, r.max); got != r.want || !ok {
			t.Errorf("P4.2: ToFloat(%d, %d): %x, %v; want %x", r.v, r.max, got, ok, r.want)
		}
	}
}

// Rat.Float64 returns the nearest number, of two the one with an even significand.
func TestToFloatIsNearest(t *testing.T) {
	for _, max := range maxima()[1:] {
		for v := 0; v <= int(max); v += 1 + int(max)/3000 {
			want, _ := big.NewRat(int64(v), int64(max)).Float64()
			if got, ok := unit.ToFloat(uint16(v), max); got != want || !ok {
				t.Fatalf("P4.2: ToFloat(%d, %d): %x, %v; want %x", v, max, got, ok, want)
			}
		}
	}
}

func TestToFloatOfZeroIsPositive(t *testing.T) {
	for _, max := range maxima()[1:] {
		if got, ok := unit.ToFloat(0, max); math.Float64bits(got) != 0 || !ok {
			t.Errorf("P4.2: ToFloat(0, %d): bits %x, %v", max, math.Float64bits(got), ok)
		}
	}
}

func TestToFloatOfInvalidSamples(t *testing.T) {
	for _, r := range [][2]uint16{{0, 0}, {1, 0}, {65535, 0}, {2, 1}, {256, 255}, {65535, 255}, {65535, 65534}, {32769, 32768}} {
		if got, ok := unit.ToFloat(r[0], r[1]); math.Float64bits(got) != 0 || ok {
			t.Errorf("P4.2: ToFloat(%d, %d): bits %x, %v", r[0], r[1], math.Float64bits(got), ok)
		}
	}
}

func TestSamplesComeBack(t *testing.T) {
	for _, max := range maxima()[1:] {
		for n := range int(max) + 1 {
			v := uint16(n)
			x, _ := unit.ToFloat(v, max)
			if got, ok := unit.FromFloat(x, max); got != v || !ok {
				t.Fatalf("P4.1, P4.2: %d of %d comes back as %d, %v", v, max, got, ok)
			}
		}
	}
}
