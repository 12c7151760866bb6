package surd_test

import (
	"math"
	"math/big"
	"testing"

	"compositor/api"
	"compositor/surd"
	"compositor/wide"
)

// The greatest values of a valid number.
const (
	topPHi = 1<<32 - 1
	topQ   = 1<<46 - 1
	topR   = 1<<33 - 1
	top    = math.MaxUint64
)

// x returns (p + q * sqrt(r)) / den.
func x(p, q, r, den uint64) api.Exact {
	return api.Exact{P: api.U128{Lo: p}, Q: q, R: r, Den: den}
}

// wideX is x with a P of 128 bits.
func wideX(hi, lo, q, r, den uint64) api.Exact {
	return api.Exact{P: api.U128{Hi: hi, Lo: lo}, Q: q, R: r, Den: den}
}

func word(n uint64) *big.Int { return new(big.Int).SetUint64(n) }

func number(a api.U128) *big.Int {
	n := new(big.Int).Lsh(word(a.Hi), 64)
	return n.Or(n, word(a.Lo))
}

// floorOf returns (m * P + add + m * Q * sqrt(R)) / (m * Den), rounded down: the
// root may be rounded down first, because all other numbers are integers.
func floorOf(v api.Exact, m, add uint64) *big.Int {
	q := new(big.Int).Mul(word(m), word(v.Q))
	root := q.Mul(q, q)
	root.Mul(root, word(v.R)).Sqrt(root)
	p := new(big.Int).Mul(word(m), number(v.P))
	p.Add(p, word(add)).Add(p, root)
	return p.Div(p, new(big.Int).Mul(word(m), word(v.Den)))
}

// expect returns n, or 0 and false if it is at least 2^63.
func expect(n *big.Int) (uint64, bool) {
	if n.BitLen() > 63 {
		return 0, false
	}
	return n.Uint64(), true
}

// compared compares v with n: Q * sqrt(R) with n * Den - P.
func compared(v api.Exact, n uint64) int {
	rest := new(big.Int).Mul(word(n), word(v.Den))
	rest.Sub(rest, number(v.P))
	if rest.Sign() < 0 {
		return 1
	}
	square := new(big.Int).Mul(word(v.Q), word(v.Q))
	return square.Mul(square, word(v.R)).Cmp(rest.Mul(rest, rest))
}

// check holds all results for a valid number against math/big.
func check(t *testing.T, v api.Exact) {
	t.Helper()
	if !surd.Valid(v) {
		t.Fatalf("P3.1: Valid(%v): false", v)
	}
	floor := floorOf(v, 1, 0)
	want, fits := expect(floor)
	if got, ok := surd.Floor(v); got != want || ok != fits {
		t.Fatalf("P3.2: Floor(%v): %d, %v; want %d, %v", v, got, ok, want, fits)
	}
	want, fits = expect(nearest(v))
	if got, ok := surd.Half(v); got != want || ok != fits {
		t.Fatalf("P3.2: Half(%v): %d, %v; want %d, %v", v, got, ok, want, fits)
	}
	for _, n := range around(floor) {
		if got, ok := surd.Compare(v, n); got != compared(v, n) || !ok {
			t.Fatalf("P3.1: Compare(%v, %d): %d, %v; want %d", v, n, got, ok, compared(v, n))
		}
	}
}

// nearest is the definition of layer 1: (2 * v + 1) / 2, rounded down.
func nearest(v api.Exact) *big.Int {
	return floorOf(v, 2, v.Den)
}

// around returns the numbers next to n that have 64 bits, and the extreme ones.
func around(n *big.Int) []uint64 {
	l := []uint64{0, 1, 1<<63 - 1, 1 << 63, top}
	for i := range int64(4) {
		if m := new(big.Int).Add(n, big.NewInt(i-1)); m.IsUint64() {
			l = append(l, m.Uint64())
		}
	}
	return l
}

func TestValid(t *testing.T) {
	for _, r := range []struct {
		v    api.Exact
		want bool
	}{
		{x(0, 0, 0, 1), true}, {x(0, 0, 0, 0), false}, {x(0, 0, 0, top), true}, {api.Exact{}, false},
		{wideX(topPHi, top, 0, 0, 1), true}, {wideX(topPHi+1, 0, 0, 0, 1), false}, {wideX(top, 0, 0, 0, 1), false},
		{x(0, topQ, 0, 1), true}, {x(0, topQ+1, 0, 1), false}, {x(0, top, 0, 1), false},
		{x(0, 0, topR, 1), true}, {x(0, 0, topR+1, 1), false}, {x(0, 0, top, 1), false},
		{wideX(topPHi, top, topQ, topR, top), true}, {wideX(topPHi, top, topQ, topR, 0), false},
		{wideX(top, top, top, top, top), false},
	} {
		if got := surd.Valid(r.v); got != r.want {
			t.Errorf("P3.1: Valid(%v): %v; want %v", r.v, got, r.want)
		}
	}
}

func TestNumbersThatAreNotValid(t *testing.T) {
	for _, v := range []api.Exact{
		{}, x(7, 3, 5, 0), wideX(topPHi+1, 0, 0, 0, top), wideX(top, top, 0, 0, top), x(7, topQ+1, 5, 1<<20), x(7, top, 5, 1),
		x(7, 3, topR+1, 1), x(7, 3, top, 1), x(7, 0, topR+1, 1), x(7, topQ+1, 0, 1), wideX(top, top, top, top, top), wideX(top, top, top, top, 0),
	} {
		for _, n := range []uint64{0, 1, 7, top} {
			if got, ok := surd.Compare(v, n); got != 0 || ok {
				t.Errorf("P3.1: Compare(%v, %d): %d, %v", v, n, got, ok)
			}
		}
		if got, ok := surd.Floor(v); got != 0 || ok {
			t.Errorf("P3.2: Floor(%v): %d, %v", v, got, ok)
		}
		if got, ok := surd.Half(v); got != 0 || ok {
			t.Errorf("P3.2: Half(%v): %d, %v", v, got, ok)
		}
	}
}

func TestCompareExamples(t *testing.T) {
	greatest := wideX(topPHi, top, topQ, topR, 1)
	for _, r := range []struct {
		v    api.Exact
		n    uint64
		want int
	}{
		{x(0, 2, 2, 2), 1, 1}, {x(0, 2, 2, 2), 2, -1}, {x(0, 0, 0, 1), 0, 0}, {x(0, 0, 0, 1), 1, -1}, {x(1, 0, 0, 1), 0, 1},
		// One of the factors of the root is 0.
		{x(6, 5, 0, 3), 2, 0}, {x(6, 0, 5, 3), 2, 0}, {x(6, 1, 1, 3), 2, 1}, {x(5, 1, 0, 3), 2, -1}, {x(7, 0, 1, 3), 2, 1},
		// A root that is an integer, and its neighbours.
		{x(1, 2, 25, 1), 11, 0}, {x(1, 2, 26, 1), 11, 1}, {x(1, 2, 24, 1), 11, -1}, {x(1, 2, 25, 11), 1, 0}, {x(1, 2, 25, 12), 1, -1}, {x(1, 2, 25, 10), 1, 1},
		{x(0, topQ, topR, 1), top, -1}, {x(0, 1, 1, top), 1, -1}, {x(0, 0, 0, top), top, -1},
		// n * Den - P just reaches 2^64, or its square 2^128.
		{x(0, topQ, topR, 1<<32), 1 << 32, -1}, {x(5, topQ, topR, 1<<63), 2, -1}, {x(1, topQ, topR, 1<<63), 2, -1},
		{wideX(5, 3, 1, 1, 1<<32), 5<<32 + 1, -1}, {wideX(5, 3, 1, 1, 1<<32), 5 << 32, 1}, {wideX(5, 0, 0, 7, 1<<32), 5 << 32, 0},
		{greatest, top, 1}, {greatest, 0, 1},
	} {
		if got, ok := surd.Compare(r.v, r.n); got != r.want || !ok {
			t.Errorf("P3.1: Compare(%v, %d): %d, %v; want %d", r.v, r.n, got, ok, r.want)
		}
	}
}

func TestRoundingExamples(t *testing.T) {
	for _, r := range []struct {
		v           api.Exact
		floor, half uint64
	}{
		{x(0, 1, 2, 1), 1, 1}, {x(1, 1, 4, 2), 1, 2}, {x(0, 0, 0, 1), 0, 0}, {x(0, 0, 0, top), 0, 0}, {x(0, 1, 3, 1), 1, 2},
		// Ties, and what is next to them.
		{x(5, 0, 0, 2), 2, 3}, {x(4, 0, 9, 3), 1, 1}, {x(5, 7, 0, 3), 1, 2}, {x(1, 0, 0, 2), 0, 1}, {x(0, 1, 1, 3), 0, 0}, {x(3, 2, 9, 6), 1, 2},
		{x(0, 1, 225, 10), 1, 2}, {x(0, 1, 224, 10), 1, 1}, {x(0, 1, 226, 10), 1, 2}, {x(0, 1, 400, 10), 2, 2}, {x(0, 1, 399, 10), 1, 2},
		// 2 * P and 2 * x do not overflow.
		{x(1<<63, 0, 0, top), 0, 1}, {x(1<<63-1, 0, 0, top), 0, 0}, {x(1<<63-1, 1, 1, top), 0, 1}, {x(1<<63-2, 1, 2, top), 0, 0}, {x(1<<63-1, 1, 2, top), 0, 1},
	} {
		if got, ok := surd.Floor(r.v); got != r.floor || !ok {
			t.Errorf("P3.2: Floor(%v): %d, %v; want %d", r.v, got, ok, r.floor)
		}
		if got, ok := surd.Half(r.v); got != r.half || !ok {
			t.Errorf("P3.2: Half(%v): %d, %v; want %d", r.v, got, ok, r.half)
		}
	}
}

func TestResultsAtTheLimit(t *testing.T) {
	const last = 1<<63 - 1
	for _, r := range []struct {
		v           api.Exact
		floor, half uint64
		ok, up      bool
	}{
		{x(last, 0, 0, 1), last, last, true, true}, {x(last+1, 0, 0, 1), 0, 0, false, false}, {x(top, 0, 0, 1), 0, 0, false, false},
		{x(last-1, 1, 2, 1), last, last, true, true}, {x(last-1, 1, 3, 1), last, 0, true, false}, {x(last-1, 1, 4, 1), 0, 0, false, false},
		{x(top, 0, 0, 2), last, 0, true, false}, {x(top-1, 0, 0, 2), last, last, true, true}, {x(top-1, 1, 1, 2), last, 0, true, false},
		// P / Den is far below the limit, but the root reaches it.
		{x(1<<62, 1<<45, 1<<32, 1), 3 << 61, 3 << 61, true, true}, {x(3<<61, 1<<45, 1<<32, 1), 0, 0, false, false},
		// A quotient of more than 64 bits, whose lower half is small.
		{wideX(1, 5, 0, 0, 1), 0, 0, false, false}, {wideX(1<<31, 5, 3, 2, 2), 0, 0, false, false}, {wideX(topPHi, top, topQ, topR, 1), 0, 0, false, false},
		{wideX(topPHi, top, topQ, topR, top), 1 << 32, 1 << 32, true, true}, {wideX(topPHi, top, 0, 0, top), 1 << 32, 1 << 32, true, true},
	} {
		if got, ok := surd.Floor(r.v); got != r.floor || ok != r.ok {
			t.Errorf("P3.2: Floor(%v): %d, %v; want %d, %v", r.v, got, ok, r.floor, r.ok)
		}
		if got, ok := surd.Half(r.v); got != r.half || ok != r.up {
			t.Errorf("P3.2: Half(%v): %d, %v; want %d, %v", r.v, got, ok, r.half, r.up)
		}
		check(t, r.v)
	}
}

// If R is the square of k, the number is (P + Q * k) / Den.
func TestRootsOfSquares(t *testing.T) {
	for k := range uint64(25) {
		for p := range uint64(8) {
			for q := range uint64(5) {
				for den := uint64(1); den < 13; den++ {
					v, n := x(p, q, k*k, den), p+q*k
					if got, ok := surd.Floor(v); got != n/den || !ok {
						t.Fatalf("P3.2: Floor(%v): %d, %v; want %d", v, got, ok, n/den)
					}
					if got, ok := surd.Half(v); got != (2*n+den)/(2*den) || !ok {
						t.Fatalf("P3.2: Half(%v): %d, %v; want %d", v, got, ok, (2*n+den)/(2*den))
					}
				}
			}
		}
	}
}

func TestSmallNumbers(t *testing.T) {
	for r := range uint64(40) {
		for p := range uint64(6) {
			for q := range uint64(6) {
				for den := uint64(1); den < 8; den++ {
					check(t, x(p, q, r, den))
				}
			}
		}
	}
}

func TestAllPairsOfEdges(t *testing.T) {
	factors := []uint64{0, 1, 2, 3, 255, 65535, 1 << 31, 1<<45 + 1, topQ - 1, topQ}
	radicands := []uint64{0, 1, 2, 3, 4, 65025, 65535, 1<<32 - 1, 1 << 32, 65535 * 65535, topR - 1, topR}
	denominators := []uint64{1, 2, 3, 255 * 255, 65535 * 65535, 255 * 255 * 255 * 255, 1<<32 - 1, 1 << 32, 1<<63 - 1, 1 << 63, top - 1, top}
	for _, hi := range []uint64{0, 1, 2, 1 << 15, 1<<31 - 1, 1 << 31, topPHi} {
		for _, lo := range []uint64{0, 1, 2, 7, 1<<63 - 1, 1 << 63, top - 1, top} {
			for _, q := range factors {
				for _, r := range radicands {
					for _, den := range denominators {
						check(t, wideX(hi, lo, q, r, den))
					}
				}
			}
		}
	}
}

// The powers of k + sqrt(r), where r is k * k + 1 or k * k - 1, are the numbers
// p + q * sqrt(r) for which p * p and q * q * r differ by 1: their roots are next
// to integers, closer than a float can tell.
func TestRootsNextToIntegers(t *testing.T) {
	checkPowers(t, 1, 2)
	for _, k := range []uint64{2, 3, 7, 10, 255, 1000, 65535, 92680} {
		checkPowers(t, k, k*k-1)
		checkPowers(t, k, k*k+1)
	}
}

func checkPowers(t *testing.T, k, r uint64) {
	side := 1
	for p, q := k, uint64(1); q <= topQ; p, q = k*p+r*q, p+k*q {
		// q * sqrt(r) is less than p if r is k * k - 1; otherwise the sides alternate.
		if r < k*k {
			side = -1
		}
		for _, n := range []uint64{1, 2, 255, 65535, 1<<32 - 1} {
			// This is next to n, and the second number is next to n + 1/2.
			v := api.Exact{P: wide.Mul(n-1, p), Q: q, R: r, Den: p}
			if got, ok := surd.Compare(v, n); got != side || !ok {
				t.Fatalf("P3.1: Compare(%v, %d): %d, %v; want %d", v, n, got, ok, side)
			}
			check(t, v)
			v.P, v.Den = wide.Mul(n, 2*p), 2*p
			want := n
			if side > 0 {
				want = n + 1
			}
			if got, ok := surd.Half(v); got != want || !ok {
				t.Fatalf("P3.2: Half(%v): %d, %v; want %d", v, got, ok, want)
			}
			check(t, v)
		}
		side = -side
	}
}
