// Package round is layer 1 (exactly rounded integer division): see shared/doc/01-round.md.
package round

import "math/bits"

// Half returns the integer nearest to n / d (ties up), or 0 if d is 0.
func Half(n, d uint64) uint64 {
	if d == 0 {
		return 0
	}
	return nearest(n/d, n%d, d)
}

// nearest rounds q + r / d, where r < d, to the nearest integer.
func nearest(q, r, d uint64) uint64 {
	// The comparison is not made with 2 * r, which could overflow.
	if r >= d-r {
		return q + 1
	}
	return q
}

// By255 returns Half(n, 255).
//
// As 255 is odd there are no ties, and the result is the quotient (t - 1) / 255
// rounded down, where t = n + 128. With F = (2^40 - 1) / 255, which is the sum
// of 2^0, 2^8, ..., 2^32, the number t * F / 2^40 is less than t / 255, by at
// most 1 / 255 as t is at most 2^40. So it has the same integer part as
// (t - 1) / 255. Horner's rule computes it, and rounding down in each of its
// steps does not change the integer part.
func By255(n uint32) uint32 {
	t := uint64(n) + 128
	s := t + t>>8
	s = t + s>>8
	s = t + s>>8
	s = t + s>>8
	return uint32(s >> 8)
}

// By65535 returns Half(n, 65535).
//
// n is high * 65535 + high + low: taking high out first keeps t from
// overflowing. The rest is as in By255, with F = (2^64 - 1) / 65535.
func By65535(n uint64) uint64 {
	high, low := n>>16, n&0xffff
	t := high + low + 32768
	s := t + t>>16
	s = t + s>>16
	s = t + s>>16
	return high + s>>16
}

// MulDiv returns the integer nearest to a * b / d (ties up), or false if d is 0
// or the result does not fit into 64 bits.
func MulDiv(a, b, d uint64) (uint64, bool) {
	hi, lo := bits.Mul64(a, b)
	// This includes d = 0; otherwise the quotient is at least 2^64.
	if hi >= d {
		return 0, false
	}
	q, r := bits.Div64(hi, lo, d)
	n := nearest(q, r, d)
	// Rounding up can step from 2^64 - 1 to 2^64.
	if n < q {
		return 0, false
	}
	return n, true
}

// Sqrt returns the greatest integer whose square is at most n.
func Sqrt(n uint64) uint64 {
	if n == 0 {
		return 0
	}
	// Newton's iteration from above falls until it reaches the root.
	x := uint64(1) << ((bits.Len64(n) + 1) / 2)
	for {
		y := (x + n/x) / 2
		if y >= x {
			return x
		}
		x = y
	}
}
