package round_test

import (
	"math"
	"math/big"
	"slices"
	"testing"

	"compositor/round"
)

// edges returns numbers around the places where carries, ties and overflows begin.
func edges() []uint64 {
	l := []uint64{0, 1, 2, 3, 4, 5, 6, 7, 9, 10, 31, 100, 127, 128, 129, 510, 32767, 32768, 32769, 131070, 6_700_417}
	for _, k := range []int{8, 16, 24, 31, 32, 33, 48, 62, 63} {
		p := uint64(1) << k
		l = append(l, p-2, p-1, p, p+1, p+2, p/3, p+p/5)
	}
	l = append(l, 255*255, 65535*65535, math.MaxUint64/2, math.MaxUint64/3, math.MaxUint64/255, math.MaxUint64/65535)
	for i := range uint64(4) {
		l = append(l, math.MaxUint64-i)
	}
	slices.Sort(l)
	return slices.Compact(l)
}

func number(n uint64) *big.Int { return new(big.Int).SetUint64(n) }

// nearest is the definition of the chapter: (2n + d) / 2d, rounded down.
func nearest(n, d *big.Int) *big.Int {
	twice := new(big.Int).Lsh(n, 1)
	twice.Add(twice, d)
	return twice.Div(twice, new(big.Int).Lsh(d, 1))
}

func TestHalfExamples(t *testing.T) {
	for _, r := range []struct{ n, d, want uint64 }{
		{5, 2, 3}, {4, 3, 1}, {1, 2, 1}, {3, 2, 2}, {7, 2, 4}, {1, 3, 0}, {2, 3, 1}, {10, 4, 3}, {9, 4, 2}, {11, 4, 3}, {0, 1, 0}, {0, math.MaxUint64, 0}, {7, 7, 1},
		{math.MaxUint64, 1, math.MaxUint64}, {math.MaxUint64, 2, 1 << 63}, {math.MaxUint64, math.MaxUint64, 1},
		{1 << 63, math.MaxUint64, 1}, {1<<63 - 1, math.MaxUint64, 0}, {1<<63 - 1, math.MaxUint64 - 1, 1}, {1<<63 - 2, math.MaxUint64 - 1, 0},
	} {
		if got := round.Half(r.n, r.d); got != r.want {
			t.Errorf("P1.1: Half(%d, %d): %d; want %d", r.n, r.d, got, r.want)
		}
	}
}

func TestHalfOfZero(t *testing.T) {
	for _, n := range edges() {
		if got := round.Half(n, 0); got != 0 {
			t.Errorf("P1.1: Half(%d, 0): %d; want 0", n, got)
		}
	}
}

func TestHalfIsNearest(t *testing.T) {
	for _, n := range edges() {
		for _, d := range edges() {
			if d == 0 {
				continue
			}
			if got, want := round.Half(n, d), nearest(number(n), number(d)); number(got).Cmp(want) != 0 {
				t.Errorf("P1.1: Half(%d, %d): %d; want %v", n, d, got, want)
			}
		}
	}
}

func TestHalfOfSmallNumbers(t *testing.T) {
	for d := uint64(1); d < 70; d++ {
		for n := range uint64(700) {
			if got, want := round.Half(n, d), (2*n+d)/(2*d); got != want {
				t.Errorf("P1.1: Half(%d, %d): %d; want %d", n, d, got, want)
			}
		}
	}
}

func TestHalfNeverDecreases(t *testing.T) {
	for _, d := range edges() {
		last := uint64(0)
		for _, n := range edges() {
			got := round.Half(n, d)
			if got < last {
				t.Errorf("P1.1: Half(%d, %d) is %d, and it was %d for a smaller number", n, d, got, last)
			}
			last = got
		}
	}
}

// The result can only change where n passes 255 * q + 127, and each of these places is looked at.
func TestBy255(t *testing.T) {
	const top = math.MaxUint32 / 255
	for q := range uint32(top) {
		n := 255*q + 127
		if got := round.By255(n); got != q {
			t.Fatalf("P1.2: By255(%d): %d; want %d", n, got, q)
		}
		if got := round.By255(n + 1); got != q+1 {
			t.Fatalf("P1.2: By255(%d): %d; want %d", n+1, got, q+1)
		}
	}
	for i := range uint32(128) {
		if got := round.By255(math.MaxUint32 - i); got != top {
			t.Errorf("P1.2: By255(%d): %d; want %d", math.MaxUint32-i, got, top)
		}
	}
}

func TestBy255IsHalf(t *testing.T) {
	check := func(n uint32) {
		if got, want := round.By255(n), round.Half(uint64(n), 255); uint64(got) != want {
			t.Fatalf("P1.2: By255(%d): %d; want %d", n, got, want)
		}
	}
	for n := range uint32(1 << 17) {
		check(n)
		check(math.MaxUint32 - n)
		check(1<<31 - 1<<16 + n)
	}
	for n := uint64(0); n <= math.MaxUint32; n += 1009 {
		check(uint32(n))
	}
}

func TestBy65535(t *testing.T) {
	check := func(n uint64) {
		if got, want := round.By65535(n), round.Half(n, 65535); got != want {
			t.Fatalf("P1.2: By65535(%d): %d; want %d", n, got, want)
		}
	}
	for _, n := range edges() {
		check(n)
	}
	for i := range uint64(1 << 18) {
		check(i)
		check(math.MaxUint64 - i)
		check(1<<63 - 1<<17 + i)
		check(1<<48 - 1<<17 + i)
		check(65535*65535 - 1<<17 + i)
	}
	for n := uint64(0); n < math.MaxUint64-1<<45; n += 1<<45 - 93 {
		check(n)
	}
}

// The result changes where n passes 65535 * q + 32767.
func TestBy65535AtItsSteps(t *testing.T) {
	const top = math.MaxUint64 / 65535
	check := func(q uint64) {
		n := 65535*q + 32767
		if got := round.By65535(n); got != q {
			t.Fatalf("P1.2: By65535(%d): %d; want %d", n, got, q)
		}
		if got := round.By65535(n + 1); got != q+1 {
			t.Fatalf("P1.2: By65535(%d): %d; want %d", n+1, got, q+1)
		}
	}
	for i := range uint64(1 << 18) {
		check(i)
		check(top - 1 - i)
		check(1<<32 - 1<<17 + i)
		check(1<<47 - 1<<17 + i)
	}
	for q := uint64(0); q < top; q += 1<<28 + 57 {
		check(q)
	}
}

func TestMulDivExamples(t *testing.T) {
	for _, r := range []struct {
		a, b, d, want uint64
		ok            bool
	}{
		{3, 5, 2, 8, true}, {3, 5, 4, 4, true}, {5, 1, 2, 3, true}, {7, 3, 6, 4, true}, {2, 5, 4, 3, true}, {0, 9, 4, 0, true}, {9, 0, 4, 0, true},
		{1 << 63, 4, 8, 1 << 62, true}, {1 << 63, 2, 1, 0, false}, {1 << 63, 2, 2, 1 << 63, true},
		{math.MaxUint64, math.MaxUint64, math.MaxUint64, math.MaxUint64, true},
		{math.MaxUint64, math.MaxUint64, math.MaxUint64 - 1, 0, false},
		{math.MaxUint64, 1, 1, math.MaxUint64, true}, {math.MaxUint64, 2, 1, 0, false},
		// (2^65 - 1) / 2 is rounded up to 2^64, and (2^65 - 3) / 2 to 2^64 - 1.
		{(1<<65 - 1) / 31, 31, 2, 0, false}, {(1<<65 - 3) / 47, 47, 2, math.MaxUint64, true},
		{0, 0, 0, 0, false}, {1, 1, 0, 0, false}, {math.MaxUint64, math.MaxUint64, 0, 0, false},
	} {
		if got, ok := round.MulDiv(r.a, r.b, r.d); got != r.want || ok != r.ok {
			t.Errorf("P1.3: MulDiv(%d, %d, %d): %d, %v; want %d, %v", r.a, r.b, r.d, got, ok, r.want, r.ok)
		}
	}
}

func TestMulDivIsNearest(t *testing.T) {
	for _, a := range edges() {
		for _, b := range edges() {
			product := new(big.Int).Mul(number(a), number(b))
			for _, d := range edges() {
				var want uint64
				fits := false
				if d != 0 {
					n := nearest(product, number(d))
					if fits = n.IsUint64(); fits {
						want = n.Uint64()
					}
				}
				if got, ok := round.MulDiv(a, b, d); got != want || ok != fits {
					t.Fatalf("P1.3: MulDiv(%d, %d, %d): %d, %v; want %d, %v", a, b, d, got, ok, want, fits)
				}
			}
		}
	}
}

func TestSqrtOfSmallNumbers(t *testing.T) {
	want := uint64(0)
	for n := range uint64(1 << 20) {
		if (want+1)*(want+1) == n {
			want++
		}
		if got := round.Sqrt(n); got != want {
			t.Fatalf("P1.4: Sqrt(%d): %d; want %d", n, got, want)
		}
	}
}

func TestSqrtAroundSquares(t *testing.T) {
	check := func(r uint64) {
		if got := round.Sqrt(r * r); got != r {
			t.Fatalf("P1.4: Sqrt(%d): %d; want %d", r*r, got, r)
		}
		if got := round.Sqrt(r*r - 1); got != r-1 {
			t.Fatalf("P1.4: Sqrt(%d): %d; want %d", r*r-1, got, r-1)
		}
		if got := round.Sqrt(r*r + 2*r); got != r {
			t.Fatalf("P1.4: Sqrt(%d): %d; want %d", r*r+2*r, got, r)
		}
	}
	for i := range uint64(100_000) {
		check(1 + i)
		check(math.MaxUint32 - i)
		check(1 + i*42_949)
	}
}

func TestSqrtAtTheEdges(t *testing.T) {
	for _, n := range edges() {
		if got, want := round.Sqrt(n), new(big.Int).Sqrt(number(n)); number(got).Cmp(want) != 0 {
			t.Errorf("P1.4: Sqrt(%d): %d; want %v", n, got, want)
		}
	}
}
