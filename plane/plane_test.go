package plane_test

import (
	"math"
	"math/big"
	"slices"
	"testing"

	"compositor/api"
	"compositor/plane"
)

// top is the greatest size of a plane, and the greatest stride.
const top = api.MaxPixels

// of returns a plane.
func of(w, h, stride int, s ...uint16) api.Plane {
	return api.Plane{W: w, H: h, Stride: stride, S: s}
}

// filled returns a plane with n different elements, after which the slice has
// room for more that no call may look at.
func filled(w, h, stride, n int) api.Plane {
	s := make([]uint16, n+w+stride+9)
	for i := range s {
		s[i] = uint16(1000 + i)
	}
	return of(w, h, stride, s[:n]...)
}

// shapes returns the numbers of all small valid planes.
func shapes() [][3]int {
	var l [][3]int
	for w := 1; w <= 4; w++ {
		for h := 1; h <= 4; h++ {
			for stride := w; stride <= w+3; stride++ {
				l = append(l, [3]int{w, h, stride})
			}
		}
	}
	return l
}

// small returns all small valid planes: with just enough elements, and with more.
func small() []api.Plane {
	var l []api.Plane
	for _, s := range shapes() {
		for _, more := range []int{0, 1, s[2], 2*s[2] + 1} {
			l = append(l, filled(s[0], s[1], s[2], (s[1]-1)*s[2]+s[0]+more))
		}
	}
	return l
}

// invalid returns planes of which each breaks one condition of the definition,
// or several.
func invalid() []api.Plane {
	var l []api.Plane
	for _, s := range shapes() {
		n := (s[1]-1)*s[2] + s[0]
		l = append(l, filled(s[0], s[1], s[2], n-1), filled(s[0], s[1], s[2], 0), filled(s[0], s[1], s[0]-1, n+99))
		l = append(l, of(s[0], s[1], s[2]), of(s[0], s[1], top+1, filled(1, 1, 1, 99).S...))
	}
	s := filled(1, 1, 1, 99).S
	for _, x := range far() {
		l = append(l, of(x, 1, x, s...), of(1, x, 1, s...), of(1, 1, x, s...), of(x, x, x, s...), of(x, 1, 1, s...))
	}
	return append(l, api.Plane{})
}

// far returns numbers that are no W, H or Stride of a valid plane; the low 32
// bits of some are.
func far() []int {
	return []int{0, -1, -2, -top, top + 1, 1 << 31, -1 << 31, 1<<32 - 1, 1 << 32, 1<<32 + 1, -1<<32 + 1, 1 << 62, -1 << 62, math.MaxInt, math.MinInt}
}

// isZero reports whether p is the zero plane.
func isZero(p api.Plane) bool {
	return p.W == 0 && p.H == 0 && p.Stride == 0 && len(p.S) == 0
}

// same reports whether the fields of p and q are the same.
func same(p, q api.Plane) bool {
	return p.W == q.W && p.H == q.H && p.Stride == q.Stride && slices.Equal(p.S, q.S)
}

// kept returns a copy of p with all that its slice has room for.
func kept(p api.Plane) api.Plane {
	p.S = slices.Clone(p.S[:cap(p.S)])
	return p
}

// unchanged checks that p and the room after its elements are as in before.
func unchanged(t *testing.T, what string, p, before api.Plane) {
	t.Helper()
	p.S = p.S[:cap(p.S)]
	if !same(p, before) {
		t.Fatalf("R3: %s has changed its argument to %v; before %v", what, p, before)
	}
}

// wanted returns the number of elements that a plane with these numbers must
// have, and false if no valid plane has them. It is the definition.
func wanted(w, h, stride int) (*big.Int, bool) {
	bw, bh, bs := big.NewInt(int64(w)), big.NewInt(int64(h)), big.NewInt(int64(stride))
	limit := big.NewInt(top)
	if w < 1 || h < 1 || new(big.Int).Mul(bw, bh).Cmp(limit) > 0 || stride < w || stride > top {
		return nil, false
	}
	n := new(big.Int).Sub(bh, big.NewInt(1))
	return n.Add(n.Mul(n, bs), bw), true
}

// checkNew holds New against the definition.
func checkNew(t *testing.T, w, h, stride int) {
	t.Helper()
	n, want := wanted(w, h, stride)
	want = want && n.Cmp(big.NewInt(top)) <= 0
	p, ok := plane.New(w, h, stride)
	if ok != want {
		t.Fatalf("P14.1: New(%d, %d, %d): %v; want %v", w, h, stride, ok, want)
	}
	if !ok {
		if !isZero(p) {
			t.Fatalf("P14.1: New(%d, %d, %d): a plane beside false", w, h, stride)
		}
		return
	}
	if p.W != w || p.H != h || p.Stride != stride || n.Cmp(big.NewInt(int64(len(p.S)))) != 0 {
		t.Fatalf("P14.1: New(%d, %d, %d): %d, %d, %d with %d elements; want %v", w, h, stride, p.W, p.H, p.Stride, len(p.S), n)
	}
	if !plane.Valid(p) || slices.ContainsFunc(p.S, func(v uint16) bool { return v != 0 }) {
		t.Fatalf("P14.1: New(%d, %d, %d): Valid %v; want true and only zeros", w, h, stride, plane.Valid(p))
	}
}

func TestValidOfSmallPlanes(t *testing.T) {
	for w := -2; w <= 4; w++ {
		for h := -2; h <= 4; h++ {
			for stride := -2; stride <= 6; stride++ {
				n, fits := wanted(w, h, stride)
				for length := range 26 {
					want := fits && n.Cmp(big.NewInt(int64(length))) <= 0
					p := filled(max(w, 0), max(h, 0), max(stride, 0), length)
					p.W, p.H, p.Stride = w, h, stride
					if plane.Valid(p) != want {
						t.Fatalf("P14.1: Valid of %d, %d, %d with %d elements: %v; want %v", w, h, stride, length, !want, want)
					}
				}
			}
		}
	}
	for _, p := range invalid() {
		if plane.Valid(p) {
			t.Errorf("P14.1: Valid of %d, %d, %d with %d elements: true; want false", p.W, p.H, p.Stride, len(p.S))
		}
	}
}

func TestValidOfLargePlanes(t *testing.T) {
	s := make([]uint16, 3*top)
	for i, r := range []struct {
		w, h, stride, n int
		want            bool
	}{
		{top, 1, top, top, true}, {top, 1, top, top - 1, false}, {top, 1, top, 3 * top, true},
		{1, top, 1, top, true}, {1, top, 1, top - 1, false},
		{1 << 12, 1 << 12, 1 << 12, top, true}, {1 << 12, 1 << 12, 1 << 12, top - 1, false},
		{top + 1, 1, top + 1, 3 * top, false}, {top + 1, 1, top, 3 * top, false}, {1, top + 1, 1, 3 * top, false},
		{1<<12 + 1, 1 << 12, 1<<12 + 1, 3 * top, false}, {1 << 12, 1<<12 + 1, 1 << 12, 3 * top, false}, {4095, 4097, 4095, 4095 * 4097, true},
		{2, top / 2, 2, top, true}, {3, top / 3, 3, top - 1, true}, {3, top/3 + 1, 3, 3 * top, false}, {top / 2, 3, top / 2, 3 * top, false},
		// A valid plane may have more elements than New makes.
		{1, 2, top, top + 1, true}, {1, 2, top, top, false}, {1, 2, top + 1, 3 * top, false},
		{top / 2, 2, top, top + top/2, true}, {top / 2, 2, top, top + top/2 - 1, false}, {1, 3, top, 2*top + 1, true}, {1, 3, top, 2 * top, false},
		{1, top, 2, 2*top - 1, true}, {1, top, 2, 2*top - 2, false}, {1, top, 3, 3*top - 2, true}, {1, top, top, 3 * top, false},
		// Products whose low 32 or 64 bits are small.
		{1 << 16, 1 << 16, 1 << 16, 3 * top, false}, {1 << 16, 1<<16 + 1, 1 << 16, 3 * top, false}, {1 << 32, 1 << 32, 1 << 32, 3 * top, false}, {1 << 62, 4, 1 << 62, 3 * top, false}, {4, 1 << 62, 4, 3 * top, false},
		{1, 257, top, 3 * top, false}, {1, 1<<8 + 1, 1 << 24, 1, false}, {-1, -1, -1, 3 * top, false}, {-1, -1, 1, 3 * top, false},
	} {
		if got := plane.Valid(of(r.w, r.h, r.stride, s[:r.n]...)); got != r.want {
			t.Errorf("P14.1: Valid of the row %d: %v; want %v", i, got, r.want)
		}
	}
}

func TestNew(t *testing.T) {
	for w := -2; w <= 9; w++ {
		for h := -2; h <= 9; h++ {
			for stride := -2; stride <= 12; stride++ {
				checkNew(t, w, h, stride)
			}
		}
	}
	l := append(far(), 1, 2, 3, 4, 255, 4095, 4096, 4097, 1<<16, top/2, top/2+1, top-1, top)
	for _, w := range l {
		for _, h := range l {
			for _, stride := range l {
				// TestNewOfLargePlanes makes those with many elements.
				if n, ok := wanted(w, h, stride); !ok || n.Int64() > top || n.Int64() <= 1<<17 {
					checkNew(t, w, h, stride)
				}
			}
		}
	}
}

func TestNewOfLargePlanes(t *testing.T) {
	for _, s := range [][3]int{
		{top, 1, top}, {1, top, 1}, {1 << 12, 1 << 12, 1 << 12}, {2, top / 2, 2}, {4095, 4097, 4095}, {1, 1, top}, {5, 1, top},
		{1 << 12, 1<<12 + 1, 1 << 12}, {1 << 12, 1 << 12, 1<<12 + 1}, {1 << 11, 1 << 12, 1 << 12}, {2048, 4097, 4096}, {1, 2, top}, {1, 2, top - 1}, {2, 2, top - 1}, {2, 2, top - 2},
		{top / 2, 2, top / 2}, {top / 2, 2, top/2 + 1}, {1, top, 2}, {1, top / 2, 2}, {1, top / 2, 3}, {2, top/2 + 1, 2}, {1, top, top}, {1, 257, top}, {1, 2, top + 1}, {1, 1, top + 1},
	} {
		checkNew(t, s[0], s[1], s[2])
	}
}

func TestNewPlanesShareNothing(t *testing.T) {
	p, _ := plane.New(2, 3, 5)
	q, ok := plane.New(2, 3, 5)
	if !ok || len(p.S) != 12 || len(q.S) != 12 {
		t.Fatalf("P14.1: New(2, 3, 5): %d and %d elements; want 12", len(p.S), len(q.S))
	}
	for i := range p.S {
		p.S[i] = 7
	}
	if !slices.Equal(q.S, make([]uint16, 12)) {
		t.Errorf("R3: two planes of New share elements: %v", q.S)
	}
}

func TestAt(t *testing.T) {
	for _, p := range small() {
		before := kept(p)
		for y := -3; y <= p.H+3; y++ {
			for x := -3; x <= p.Stride+3; x++ {
				want := uint16(0)
				if 0 <= x && x < p.W && 0 <= y && y < p.H {
					want = uint16(1000 + y*p.Stride + x)
				}
				if got := plane.At(p, x, y); got != want {
					t.Fatalf("P14.2: At(%v, %d, %d): %d; want %d", p, x, y, got, want)
				}
			}
		}
		unchanged(t, "At", p, before)
	}
	p := filled(2, 2, 4, 9)
	for _, c := range []int{-1, 2, 4, top, 1 << 32, 1<<32 + 1, -1 << 32, 1 << 62, 1<<62 + 1, 1 << 61, -1 << 62, math.MaxInt, math.MinInt, math.MinInt + 1} {
		for _, d := range []int{0, 1, c} {
			if got, back := plane.At(p, c, d), plane.At(p, d, c); got != 0 || back != 0 {
				t.Errorf("P14.2: At(.., %d, %d) and the other way round: %d, %d; want 0", c, d, got, back)
			}
		}
	}
	for _, p := range invalid() {
		for y := -1; y <= 4; y++ {
			for x := -1; x <= 4; x++ {
				if got := plane.At(p, x, y); got != 0 {
					t.Errorf("P14.2: At(.., %d, %d) of %d, %d, %d with %d elements: %d; want 0", x, y, p.W, p.H, p.Stride, len(p.S), got)
				}
			}
		}
	}
}

// checkWith holds With of a place that p has against the definition.
func checkWith(t *testing.T, p api.Plane, x, y int, v uint16) {
	t.Helper()
	before := kept(p)
	want := of(p.W, p.H, p.Stride, slices.Clone(p.S)...)
	want.S[y*p.Stride+x] = v
	got, ok := plane.With(p, x, y, v)
	if !ok || !same(got, want) {
		t.Fatalf("P14.2: With(%v, %d, %d, %d): %v, %v; want %v, true", p, x, y, v, got, ok, want)
	}
	unchanged(t, "With", p, before)
	for i := range got.S {
		got.S[i] = 9
	}
	_ = append(got.S, 9, 9)
	unchanged(t, "writing to the result of With", p, before)
}

// refuseWith checks that With finds no sample.
func refuseWith(t *testing.T, p api.Plane, x, y int) {
	t.Helper()
	if got, ok := plane.With(p, x, y, 5); ok || !isZero(got) {
		t.Fatalf("P14.2: With(.., %d, %d, 5) of %d, %d, %d with %d elements: %v, %v; want a zero plane and false", x, y, p.W, p.H, p.Stride, len(p.S), got, ok)
	}
}

func TestWith(t *testing.T) {
	for _, p := range small() {
		for y := -2; y <= p.H+2; y++ {
			for x := -2; x <= p.Stride+2; x++ {
				if 0 <= x && x < p.W && 0 <= y && y < p.H {
					checkWith(t, p, x, y, uint16(7*x+y))
				} else {
					refuseWith(t, p, x, y)
				}
			}
		}
	}
	p := filled(2, 2, 4, 9)
	for _, v := range []uint16{0, 1, 255, 256, 32767, 32768, 65534, 65535, p.S[5]} {
		checkWith(t, p, 1, 1, v)
	}
	for _, c := range []int{-1, 2, 4, top, 1 << 32, 1<<32 + 1, -1 << 32, 1 << 62, 1<<62 + 1, 1 << 61, math.MaxInt, math.MinInt, math.MinInt + 1} {
		for _, d := range []int{0, 1, c} {
			refuseWith(t, p, c, d)
			refuseWith(t, p, d, c)
		}
	}
	for _, p := range invalid() {
		for y := -1; y <= 4; y++ {
			for x := -1; x <= 4; x++ {
				refuseWith(t, p, x, y)
			}
		}
	}
}

func TestWithOfLargePlanes(t *testing.T) {
	for _, s := range [][3]int{{top, 1, top}, {1, top, 1}, {1 << 12, 1 << 12, 1 << 12}} {
		p := of(s[0], s[1], s[2], make([]uint16, top)...)
		x, y := p.W-1, p.H-1
		q, ok := plane.With(p, x, y, 65535)
		if !ok || len(q.S) != top || q.S[top-1] != 65535 || q.S[top-2] != 0 || p.S[top-1] != 0 || plane.At(q, x, y) != 65535 || plane.At(p, x, y) != 0 {
			t.Errorf("P14.2: With and At of the last sample of %d, %d, %d", p.W, p.H, p.Stride)
		}
		refuseWith(t, p, x+1, y)
		refuseWith(t, p, x, y+1)
	}
}

// samples returns the samples of a valid plane, row by row.
func samples(p api.Plane) []uint16 {
	var l []uint16
	for y := 0; y < p.H; y++ {
		for x := 0; x < p.W; x++ {
			l = append(l, p.S[y*p.Stride+x])
		}
	}
	return l
}

func TestCompact(t *testing.T) {
	for _, p := range small() {
		before := kept(p)
		want := of(p.W, p.H, p.W, samples(p)...)
		got, ok := plane.Compact(p)
		if !ok || !same(got, want) {
			t.Fatalf("P14.3: Compact(%v): %v, %v; want %v, true", p, got, ok, want)
		}
		unchanged(t, "Compact", p, before)
		again, ok := plane.Compact(got)
		if !ok || !same(again, want) {
			t.Fatalf("P14.3: Compact of a compact plane: %v, %v; want %v, true", again, ok, want)
		}
		for i := range got.S {
			got.S[i] = 9
		}
		_ = append(got.S, 9, 9)
		unchanged(t, "writing to the result of Compact", p, before)
		if !same(again, want) {
			t.Fatalf("R3: Compact of the compact plane %v shares elements with it", got)
		}
	}
	for _, p := range invalid() {
		if got, ok := plane.Compact(p); ok || !isZero(got) {
			t.Errorf("P14.3: Compact of %d, %d, %d with %d elements: %v, %v; want a zero plane and false", p.W, p.H, p.Stride, len(p.S), got, ok)
		}
	}
}

func TestCompactExamples(t *testing.T) {
	p, _ := plane.New(2, 3, 5)
	if c, ok := plane.Compact(p); !ok || !same(c, of(2, 3, 2, 0, 0, 0, 0, 0, 0)) {
		t.Errorf("P14.3: Compact of New(2, 3, 5): %v, %v; want the stride 2 and 6 zeros", c, ok)
	}
	// More elements than New makes.
	wide := of(1, 2, top, make([]uint16, top+1)...)
	wide.S[0], wide.S[1], wide.S[top] = 3, 4, 5
	if c, ok := plane.Compact(wide); !ok || !same(c, of(1, 2, 1, 3, 5)) || !plane.Equal(wide, c) || plane.At(wide, 0, 1) != 5 {
		t.Errorf("P14.3: Compact of a plane with the stride %d: %v, %v; want 3 and 5", top, c, ok)
	}
	long := of(1<<12, 1<<12, 1<<12, make([]uint16, top+1)...)
	long.S[top-1], long.S[top] = 3, 4
	if c, ok := plane.Compact(long); !ok || len(c.S) != top || c.S[top-1] != 3 || !plane.Equal(long, c) {
		t.Errorf("P14.3: Compact of a plane with as many samples as there can be: %d elements, %v; want %d", len(c.S), ok, top)
	}
}

// checkEqual holds Equal, both ways round, against what is wanted.
func checkEqual(t *testing.T, p, q api.Plane, want bool) {
	t.Helper()
	if got, back := plane.Equal(p, q), plane.Equal(q, p); got != want || back != want {
		t.Fatalf("P14.3: Equal(%v, %v) and the other way round: %v, %v; want %v", p, q, got, back, want)
	}
}

func TestEqual(t *testing.T) {
	l := small()
	for _, p := range l {
		// Equal samples with another stride, and other elements between the rows and after them.
		q := of(p.W, p.H, p.Stride+2, make([]uint16, p.H*(p.Stride+2))...)
		for y := range p.H {
			copy(q.S[y*q.Stride:], p.S[y*p.Stride:y*p.Stride+p.W])
		}
		before := kept(p)
		checkEqual(t, p, p, true)
		checkEqual(t, p, q, true)
		unchanged(t, "Equal", p, before)
		for i := range q.S {
			q.S[i]++
			checkEqual(t, p, q, i%q.Stride >= q.W)
			q.S[i]--
		}
		checkEqual(t, p, of(q.W, q.H, q.Stride, q.S[:(q.H-1)*q.Stride+q.W-1]...), false)
	}
	for _, p := range l {
		for _, q := range l {
			checkEqual(t, p, q, p.W == q.W && p.H == q.H && slices.Equal(samples(p), samples(q)))
		}
	}
}

func TestEqualOfOtherSizes(t *testing.T) {
	s := make([]uint16, 12)
	for _, a := range [][2]int{{12, 1}, {1, 12}, {6, 2}, {2, 6}, {4, 3}, {3, 4}, {1, 1}, {3, 3}} {
		for _, b := range [][2]int{{12, 1}, {1, 12}, {6, 2}, {2, 6}, {4, 3}, {3, 4}, {1, 1}, {3, 3}} {
			checkEqual(t, of(a[0], a[1], a[0], s...), of(b[0], b[1], b[0], s...), a == b)
		}
	}
	for _, p := range invalid() {
		checkEqual(t, p, p, false)
		checkEqual(t, p, of(1, 1, 1, 1000), false)
		checkEqual(t, p, filled(4, 4, 4, 16), false)
		checkEqual(t, p, api.Plane{}, false)
	}
}

func TestEqualOfLargePlanes(t *testing.T) {
	p, q := of(1<<12, 1<<12, 1<<12, make([]uint16, top)...), of(1<<12, 1<<12, 1<<12, make([]uint16, top+7)...)
	if !plane.Equal(p, q) {
		t.Error("P14.3: Equal of two planes with as many samples as there can be: false; want true")
	}
	for _, i := range []int{0, 1<<12 - 1, 1 << 12, top - 1} {
		q.S[i] = 1
		if plane.Equal(p, q) {
			t.Errorf("P14.3: Equal of planes that differ in the element %d: true; want false", i)
		}
		q.S[i] = 0
	}
	q.S[top] = 1
	if !plane.Equal(p, q) {
		t.Error("P14.3: Equal of planes that differ after the last sample: false; want true")
	}
}
