package wide_test

import (
	"math"
	"math/big"
	"slices"
	"testing"

	"compositor/api"
	"compositor/wide"
)

const top = math.MaxUint64

// u returns hi * 2^64 + lo.
func u(hi, lo uint64) api.U128 { return api.U128{Hi: hi, Lo: lo} }

// words returns numbers around the places where carries, borrows and ties begin.
func words() []uint64 {
	l := []uint64{0, 1, 2, 3, 4, 5, 7, 10, 255, 65535, 6_074_000_999, 0x5555555555555555, 0xaaaaaaaaaaaaaaab}
	for _, k := range []int{31, 32, 33, 62, 63} {
		p := uint64(1) << k
		l = append(l, p-1, p, p+1, p+p/5)
	}
	l = append(l, top/3+1, top-2, top-1, top)
	slices.Sort(l)
	return slices.Compact(l)
}

// pairs returns the numbers with 128 bits whose halves are words.
func pairs() []api.U128 {
	var l []api.U128
	for _, hi := range words() {
		for _, lo := range words() {
			l = append(l, u(hi, lo))
		}
	}
	return l
}

func word(n uint64) *big.Int { return new(big.Int).SetUint64(n) }

func number(a api.U128) *big.Int {
	n := new(big.Int).Lsh(word(a.Hi), 64)
	return n.Or(n, word(a.Lo))
}

// expect returns n, or 0 and false if it is negative or at least 2^128.
func expect(n *big.Int) (api.U128, bool) {
	if n.Sign() < 0 || n.BitLen() > 128 {
		return api.U128{}, false
	}
	hi := new(big.Int).Rsh(n, 64).Uint64()
	return u(hi, new(big.Int).Sub(n, new(big.Int).Lsh(word(hi), 64)).Uint64()), true
}

func TestOf(t *testing.T) {
	for _, n := range words() {
		if got := wide.Of(n); got != u(0, n) {
			t.Errorf("P2.1: Of(%d): %v", n, got)
		}
	}
}

func TestMul(t *testing.T) {
	for _, r := range []struct {
		a, b uint64
		want api.U128
	}{{3, 5, u(0, 15)}, {1 << 40, 1 << 40, u(1<<16, 0)}, {top, top, u(top-1, 1)}, {top, 0, u(0, 0)}, {1 << 63, 2, u(1, 0)}, {top, 2, u(1, top-1)}} {
		if got := wide.Mul(r.a, r.b); got != r.want {
			t.Errorf("P2.1: Mul(%d, %d): %v; want %v", r.a, r.b, got, r.want)
		}
	}
	for _, a := range words() {
		for _, b := range words() {
			want, _ := expect(new(big.Int).Mul(word(a), word(b)))
			if got := wide.Mul(a, b); got != want {
				t.Errorf("P2.1: Mul(%d, %d): %v; want %v", a, b, got, want)
			}
		}
	}
}

func TestSumsThatJustFit(t *testing.T) {
	for _, r := range []struct {
		a, b, want api.U128
		ok         bool
	}{
		{u(0, 2), u(0, 3), u(0, 5), true}, {u(0, top), u(0, 1), u(1, 0), true}, {u(top, top), u(0, 0), u(top, top), true},
		{u(top, top-1), u(0, 1), u(top, top), true}, {u(top, top), u(0, 1), u(0, 0), false}, {u(top, 5), u(1, 5), u(0, 0), false},
		{u(1<<63, 7), u(1<<63, 7), u(0, 0), false}, {u(1<<63-1, top), u(1<<63, 0), u(top, top), true}, {u(top, top), u(top, top), u(0, 0), false},
	} {
		if got, ok := wide.Add(r.a, r.b); got != r.want || ok != r.ok {
			t.Errorf("P2.1: Add(%v, %v): %v, %v; want %v, %v", r.a, r.b, got, ok, r.want, r.ok)
		}
	}
}

func TestDifferencesThatJustFit(t *testing.T) {
	for _, r := range []struct {
		a, b, want api.U128
		ok         bool
	}{
		{u(0, 5), u(0, 3), u(0, 2), true}, {u(1, 0), u(0, 1), u(0, top), true}, {u(0, 0), u(0, 0), u(0, 0), true},
		{u(top, top), u(top, top), u(0, 0), true}, {u(0, 0), u(0, 1), u(0, 0), false}, {u(3, 4), u(3, 5), u(0, 0), false},
		{u(3, top), u(4, 0), u(0, 0), false}, {u(4, 0), u(3, top), u(0, 1), true}, {u(0, 0), u(top, top), u(0, 0), false},
	} {
		if got, ok := wide.Sub(r.a, r.b); got != r.want || ok != r.ok {
			t.Errorf("P2.1: Sub(%v, %v): %v, %v; want %v, %v", r.a, r.b, got, ok, r.want, r.ok)
		}
	}
}

func TestAddSubCompareOfAllPairs(t *testing.T) {
	l := pairs()
	for _, a := range l {
		x := number(a)
		for _, b := range l {
			y := number(b)
			want, fits := expect(new(big.Int).Add(x, y))
			if got, ok := wide.Add(a, b); got != want || ok != fits {
				t.Fatalf("P2.1: Add(%v, %v): %v, %v; want %v, %v", a, b, got, ok, want, fits)
			}
			want, fits = expect(new(big.Int).Sub(x, y))
			if got, ok := wide.Sub(a, b); got != want || ok != fits {
				t.Fatalf("P2.1: Sub(%v, %v): %v, %v; want %v, %v", a, b, got, ok, want, fits)
			}
			if got, want := wide.Compare(a, b), x.Cmp(y); got != want {
				t.Fatalf("P2.1: Compare(%v, %v): %d; want %d", a, b, got, want)
			}
		}
	}
}

func TestCompare(t *testing.T) {
	for _, r := range []struct {
		a, b api.U128
		want int
	}{
		{u(0, 1), u(0, 1), 0}, {u(0, 1), u(0, 2), -1}, {u(0, 2), u(0, 1), 1}, {u(1, 0), u(0, top), 1}, {u(0, top), u(1, 0), -1},
		{u(top, 0), u(1, top), 1}, {u(top, top), u(top, top), 0}, {u(top, 0), u(top, top), -1}, {u(1<<63, 0), u(1, 0), 1},
	} {
		if got := wide.Compare(r.a, r.b); got != r.want {
			t.Errorf("P2.1: Compare(%v, %v): %d; want %d", r.a, r.b, got, r.want)
		}
	}
}

func TestMulSmallThatJustFits(t *testing.T) {
	for _, r := range []struct {
		a    api.U128
		k    uint64
		want api.U128
		ok   bool
	}{
		{u(0, 6), 7, u(0, 42), true}, {u(top, top), 0, u(0, 0), true}, {u(top, top), 1, u(top, top), true}, {u(1, 1), top, u(top, top), true},
		// Here only the upper half is too large.
		{u(1<<63, 0), 2, u(0, 0), false}, {u(2, 0), top, u(0, 0), false},
		// Here only the carry out of the lower half is too much.
		{u(1, 2), top, u(0, 0), false}, {u(1<<63-1, top), 2, u(top, top-1), true}, {u(top/3, top), 3, u(0, 0), false},
		{u(top, top), top, u(0, 0), false},
	} {
		if got, ok := wide.MulSmall(r.a, r.k); got != r.want || ok != r.ok {
			t.Errorf("P2.1: MulSmall(%v, %d): %v, %v; want %v, %v", r.a, r.k, got, ok, r.want, r.ok)
		}
	}
}

func TestMulSmallOfAllPairs(t *testing.T) {
	for _, a := range pairs() {
		for _, k := range words() {
			want, fits := expect(new(big.Int).Mul(number(a), word(k)))
			if got, ok := wide.MulSmall(a, k); got != want || ok != fits {
				t.Fatalf("P2.1: MulSmall(%v, %d): %v, %v; want %v, %v", a, k, got, ok, want, fits)
			}
		}
	}
}

func TestDivModExamples(t *testing.T) {
	for _, r := range []struct {
		a api.U128
		d uint64
		q api.U128
		r uint64
	}{
		{u(1, 0), 3, u(0, 0x5555555555555555), 1}, {u(0, 17), 5, u(0, 3), 2}, {u(0, 4), 5, u(0, 0), 4}, {u(top, top), 1, u(top, top), 0},
		{u(top, top), top, u(1, 1), 0}, {u(top, top-1), top, u(1, 0), top - 1}, {u(5, 0), 5, u(1, 0), 0}, {u(0, 0), top, u(0, 0), 0},
	} {
		if q, m, ok := wide.DivMod(r.a, r.d); q != r.q || m != r.r || !ok {
			t.Errorf("P2.2: DivMod(%v, %d): %v, %d, %v; want %v, %d", r.a, r.d, q, m, ok, r.q, r.r)
		}
	}
}

func TestHalfExamples(t *testing.T) {
	for _, r := range []struct {
		a    api.U128
		d    uint64
		want api.U128
	}{
		{u(0, 5), 2, u(0, 3)}, {u(0, 4), 3, u(0, 1)}, {u(0, 5), 3, u(0, 2)}, {u(0, 7), 7, u(0, 1)}, {u(0, 0), 1, u(0, 0)},
		{u(top, top), 1, u(top, top)}, {u(top, top), 2, u(1<<63, 0)}, {u(1, top), 2, u(1, 0)}, {u(0, 1<<62), 1 << 63, u(0, 1)},
		{u(0, 1<<62-1), 1 << 63, u(0, 0)}, {u(0, 1<<63-1), top, u(0, 0)}, {u(0, 1<<63), top, u(0, 1)}, {u(0, top-1), top, u(0, 1)},
	} {
		if got, ok := wide.Half(r.a, r.d); got != r.want || !ok {
			t.Errorf("P2.2: Half(%v, %d): %v, %v; want %v", r.a, r.d, got, ok, r.want)
		}
	}
}

func TestDivisionOfAllPairs(t *testing.T) {
	for _, a := range pairs() {
		for _, d := range words() {
			if d == 0 {
				continue
			}
			quotient, rest := new(big.Int).DivMod(number(a), word(d), new(big.Int))
			want, _ := expect(quotient)
			if q, r, ok := wide.DivMod(a, d); q != want || r != rest.Uint64() || !ok {
				t.Fatalf("P2.2: DivMod(%v, %d): %v, %d, %v; want %v, %v", a, d, q, r, ok, want, rest)
			}
			// The definition of layer 1: (2a + d) / 2d, rounded down.
			twice := new(big.Int).Lsh(number(a), 1)
			twice.Add(twice, word(d))
			want, _ = expect(twice.Div(twice, new(big.Int).Lsh(word(d), 1)))
			if got, ok := wide.Half(a, d); got != want || !ok {
				t.Fatalf("P2.2: Half(%v, %d): %v, %v; want %v", a, d, got, ok, want)
			}
		}
	}
}

func TestDivisionByZero(t *testing.T) {
	for _, a := range pairs() {
		if q, r, ok := wide.DivMod(a, 0); q != u(0, 0) || r != 0 || ok {
			t.Errorf("P2.2: DivMod(%v, 0): %v, %d, %v", a, q, r, ok)
		}
		if got, ok := wide.Half(a, 0); got != u(0, 0) || ok {
			t.Errorf("P2.2: Half(%v, 0): %v, %v", a, got, ok)
		}
	}
}

func TestSqrtExamples(t *testing.T) {
	for _, r := range []struct {
		a    api.U128
		want uint64
	}{
		{u(0, 0), 0}, {u(0, 1), 1}, {u(0, 2), 1}, {u(0, 3), 1}, {u(0, 4), 2}, {u(0, top), 1<<32 - 1}, {u(1, 0), 1 << 32},
		{u(2, 0), 6_074_000_999}, {u(1<<62, 0), 1 << 63}, {u(1<<62-1, top), 1<<63 - 1}, {u(top-1, 0), top - 1}, {u(top-1, 1), top}, {u(top, top), top},
	} {
		if got := wide.Sqrt(r.a); got != r.want {
			t.Errorf("P2.3: Sqrt(%v): %d; want %d", r.a, got, r.want)
		}
	}
}

func TestSqrtOfSmallNumbers(t *testing.T) {
	want := uint64(0)
	for n := range uint64(1 << 18) {
		if (want+1)*(want+1) == n {
			want++
		}
		if got := wide.Sqrt(u(0, n)); got != want {
			t.Fatalf("P2.3: Sqrt(%d): %d; want %d", n, got, want)
		}
	}
}

func TestSqrtAroundSquares(t *testing.T) {
	check := func(a *big.Int, want uint64) {
		n, ok := expect(a)
		if !ok {
			t.Fatalf("the test is wrong: %v does not fit", a)
		}
		if got := wide.Sqrt(n); got != want {
			t.Fatalf("P2.3: Sqrt(%v): %d; want %d", n, got, want)
		}
	}
	around := func(r uint64) {
		square := new(big.Int).Mul(word(r), word(r))
		check(square, r)
		check(new(big.Int).Sub(square, word(1)), r-1)
		check(new(big.Int).Add(square, word(r)), r)
		// The last number below the next square.
		check(new(big.Int).Add(new(big.Int).Add(square, word(r)), word(r)), r)
	}
	for _, r := range words()[1:] {
		around(r)
	}
	for i := range uint64(2000) {
		around(1 + i)
		around(top - i)
		around(1<<32 - 1000 + i)
		around(1<<63 - 1000 + i)
		around(1 + i*(top/2000))
	}
}

func TestSqrtOfAllPairs(t *testing.T) {
	for _, a := range pairs() {
		if got, want := wide.Sqrt(a), new(big.Int).Sqrt(number(a)); word(got).Cmp(want) != 0 {
			t.Errorf("P2.3: Sqrt(%v): %d; want %v", a, got, want)
		}
	}
}
