package rect_test

import (
	"math"
	"math/big"
	"slices"
	"testing"

	"compositor/api"
	"compositor/rect"
)

// edge is the greatest coordinate of a valid rectangle.
const edge = 1 << 30

// of returns a rectangle.
func of(x0, y0, x1, y1 int) api.Rect {
	return api.Rect{X0: x0, Y0: y0, X1: x1, Y1: y1}
}

// outside returns coordinates that no valid rectangle has; the low 32 bits of
// some are those of a coordinate that a valid one can have.
func outside() []int {
	return []int{edge + 1, -edge - 1, edge + 2, -edge - 2, 1 << 31, -1 << 31, 1<<32 - 1, 1 << 32, 1<<32 + 1, -1<<32 + 1, 1 << 62, -1 << 62, math.MaxInt, math.MinInt}
}

// invalid returns rectangles that are not valid: each has one or all coordinates
// out of range.
func invalid() []api.Rect {
	var l []api.Rect
	for _, c := range outside() {
		l = append(l, of(c, 0, 3, 3), of(0, c, 3, 3), of(0, 0, c, 3), of(0, 0, 3, c), of(c, c, c, c))
	}
	return append(l, of(-edge-1, -edge-1, edge+1, edge+1), of(math.MinInt, math.MinInt, math.MaxInt, math.MaxInt), of(0, math.MinInt, 3, math.MaxInt))
}

// small returns all rectangles with coordinates from lo to hi, empty ones among
// them.
func small(lo, hi int) []api.Rect {
	var l []api.Rect
	for x0 := lo; x0 <= hi; x0++ {
		for y0 := lo; y0 <= hi; y0++ {
			for x1 := lo; x1 <= hi; x1++ {
				for y1 := lo; y1 <= hi; y1++ {
					l = append(l, of(x0, y0, x1, y1))
				}
			}
		}
	}
	return l
}

// large returns valid rectangles that reach the edges of what is valid, empty
// ones among them.
func large() []api.Rect {
	var l []api.Rect
	ends := []int{-edge, -edge + 1, 0, edge - 1, edge}
	for _, x0 := range ends {
		for _, y0 := range ends {
			for _, x1 := range ends {
				for _, y1 := range ends {
					l = append(l, of(x0, y0, x1, y1))
				}
			}
		}
	}
	return l
}

// has is the definition of a point of a valid rectangle.
func has(r api.Rect, x, y int) bool {
	return r.X0 <= x && x < r.X1 && r.Y0 <= y && y < r.Y1
}

// points returns for each place from (-1, -1) to (5, 5) whether has reports it
// for the rectangle.
func points(r api.Rect) (set [49]bool) {
	for i := range set {
		set[i] = has(r, i%7-1, i/7-1)
	}
	return set
}

// least returns the least rectangle with all points of a set.
func least(set [49]bool) api.Rect {
	var h api.Rect
	for i, in := range set {
		x, y := i%7-1, i/7-1
		switch {
		case !in:
		case h == api.Rect{}:
			h = of(x, y, x+1, y+1)
		default:
			h = of(min(h.X0, x), min(h.Y0, y), max(h.X1, x+1), max(h.Y1, y+1))
		}
	}
	return h
}

// both returns the points that f reports for two sets.
func both(p, q [49]bool, f func(a, b bool) bool) (set [49]bool) {
	for i := range set {
		set[i] = f(p[i], q[i])
	}
	return set
}

// count returns the number of points of a set.
func count(set [49]bool) int {
	n := 0
	for _, in := range set {
		if in {
			n++
		}
	}
	return n
}

func TestValid(t *testing.T) {
	for _, r := range append(small(-2, 2), large()...) {
		if !rect.Valid(r) {
			t.Errorf("P13.1: Valid(%v): false; want true", r)
		}
	}
	for _, r := range invalid() {
		if rect.Valid(r) {
			t.Errorf("P13.1: Valid(%v): true; want false", r)
		}
	}
}

func TestEmptyAndArea(t *testing.T) {
	for _, r := range small(0, 4) {
		if n := count(points(r)); rect.Area(r) != n || rect.Empty(r) != (n == 0) {
			t.Errorf("P13.1: %v: Area %d, Empty %v; want %d, %v", r, rect.Area(r), rect.Empty(r), n, n == 0)
		}
	}
	for _, r := range large() {
		n := new(big.Int)
		if r.X0 < r.X1 && r.Y0 < r.Y1 {
			n.Mul(big.NewInt(int64(r.X1-r.X0)), big.NewInt(int64(r.Y1-r.Y0)))
		}
		if got := rect.Area(r); n.Cmp(big.NewInt(int64(got))) != 0 || rect.Empty(r) != (n.Sign() == 0) {
			t.Errorf("P13.1: %v: Area %d, Empty %v; want %v, %v", r, got, rect.Empty(r), n, n.Sign() == 0)
		}
	}
	for _, r := range invalid() {
		if !rect.Empty(r) || rect.Area(r) != 0 {
			t.Errorf("P13.1: %v is not valid: Empty %v, Area %d; want true, 0", r, rect.Empty(r), rect.Area(r))
		}
	}
	for _, x := range []struct {
		r    api.Rect
		want int
	}{{of(-5, -4, -2, 7), 33}, {of(-edge, -edge, edge, edge), 1 << 62}, {of(-edge, 7, edge, 8), 1 << 31}} {
		if got := rect.Area(x.r); got != x.want || rect.Empty(x.r) {
			t.Errorf("P13.1: %v: Area %d, Empty %v; want %d, false", x.r, got, rect.Empty(x.r), x.want)
		}
	}
}

func TestContains(t *testing.T) {
	for _, r := range small(0, 4) {
		for i, want := range points(r) {
			if x, y := i%7-1, i/7-1; rect.Contains(r, x, y) != want {
				t.Errorf("P13.1: Contains(%v, %d, %d): %v; want %v", r, x, y, !want, want)
			}
		}
	}
	ends := append(outside(), -edge, -edge+1, -1, 0, 1, edge-1, edge)
	for _, x := range ends {
		for _, y := range ends {
			for _, r := range large() {
				if want := has(r, x, y); rect.Contains(r, x, y) != want {
					t.Errorf("P13.1: Contains(%v, %d, %d): %v; want %v", r, x, y, !want, want)
				}
			}
			for _, r := range invalid() {
				if rect.Contains(r, x, y) {
					t.Errorf("P13.1: %v is not valid and contains (%d, %d)", r, x, y)
				}
			}
		}
	}
}

func TestCovers(t *testing.T) {
	l := small(0, 3)
	for _, r := range l {
		for _, q := range l {
			missing := both(points(r), points(q), func(a, b bool) bool { return b && !a })
			if want := count(missing) == 0; rect.Covers(r, q) != want {
				t.Errorf("P13.1: Covers(%v, %v): %v; want %v", r, q, !want, want)
			}
		}
	}
	all := of(-edge, -edge, edge, edge)
	for _, r := range large() {
		if !rect.Covers(all, r) || !rect.Covers(r, r) || rect.Covers(r, all) != (r == all) {
			t.Errorf("P13.1: Covers of %v", r)
		}
	}
	for _, r := range invalid() {
		for _, q := range []api.Rect{all, of(0, 0, 3, 3), of(2, 2, 3, 3)} {
			if rect.Covers(r, q) || !rect.Covers(q, r) {
				t.Errorf("P13.1: Covers(%v, %v): %v, and the other way round %v; want false, true", r, q, rect.Covers(r, q), rect.Covers(q, r))
			}
		}
		if !rect.Covers(r, r) || !rect.Covers(api.Rect{}, r) || !rect.Covers(r, of(9, 9, 9, 9)) {
			t.Errorf("P13.1: Covers(%v, ..) of an empty rectangle: false; want true", r)
		}
	}
}

func TestIntersect(t *testing.T) {
	l := small(0, 3)
	for _, r := range l {
		for _, q := range l {
			want := least(both(points(r), points(q), func(a, b bool) bool { return a && b }))
			if got := rect.Intersect(r, q); got != want {
				t.Errorf("P13.2: Intersect(%v, %v): %v; want %v", r, q, got, want)
			}
		}
	}
	all := of(-edge, -edge, edge, edge)
	for _, r := range large() {
		var want api.Rect
		if r.X0 < r.X1 && r.Y0 < r.Y1 {
			want = r
		}
		if rect.Intersect(r, all) != want || rect.Intersect(all, r) != want {
			t.Errorf("P13.2: Intersect of %v and %v: %v, %v; want %v", r, all, rect.Intersect(r, all), rect.Intersect(all, r), want)
		}
	}
	for _, r := range invalid() {
		for _, q := range []api.Rect{all, of(0, 0, 3, 3), r} {
			if got, back := rect.Intersect(r, q), rect.Intersect(q, r); got != (api.Rect{}) || back != (api.Rect{}) {
				t.Errorf("P13.2: Intersect of %v, which is not valid, and %v: %v, %v; want none", r, q, got, back)
			}
		}
	}
}

func TestHull(t *testing.T) {
	l := small(0, 3)
	for _, r := range l {
		if got, want := rect.Hull(r), least(points(r)); got != want {
			t.Errorf("P13.2: Hull(%v): %v; want %v", r, got, want)
		}
		for _, q := range l {
			want := least(both(points(r), points(q), func(a, b bool) bool { return a || b }))
			if got := rect.Hull(r, q); got != want {
				t.Errorf("P13.2: Hull(%v, %v): %v; want %v", r, q, got, want)
			}
		}
	}
	all, one := of(-edge, -edge, edge, edge), of(7, 8, 9, 10)
	for _, r := range invalid() {
		if rect.Hull(r) != (api.Rect{}) || rect.Hull(r, r) != (api.Rect{}) || rect.Hull(r, one) != one || rect.Hull(one, r) != one || rect.Hull(r, one, r, all, r) != all {
			t.Errorf("P13.2: Hull with %v, which is not valid", r)
		}
	}
}

func TestHullOfMany(t *testing.T) {
	corners := []api.Rect{of(edge-1, 0, edge, 1), of(0, -edge, 1, -edge+1), of(-edge, 0, -edge+1, 1), of(0, edge-1, 1, edge)}
	for i, x := range []struct {
		l    []api.Rect
		want api.Rect
	}{
		{nil, api.Rect{}},
		{[]api.Rect{}, api.Rect{}},
		{[]api.Rect{{}, of(3, 3, 3, 9), of(9, 9, 3, 3)}, api.Rect{}},
		{corners[:1], corners[0]},
		{corners[:2], of(0, -edge, edge, 1)},
		{corners[:3], of(-edge, -edge, edge, 1)},
		{corners, of(-edge, -edge, edge, edge)},
		{[]api.Rect{of(5, 5, 6, 6), {}, of(-4, 9, -3, 11), of(2, 99, 2, 99), of(0, -7, 1, 0)}, of(-4, -7, 6, 11)},
		{[]api.Rect{of(-9, -9, 9, 9), of(5, 5, 6, 6)}, of(-9, -9, 9, 9)},
	} {
		kept := slices.Clone(x.l)
		if got := rect.Hull(x.l...); got != x.want {
			t.Errorf("P13.2: Hull of the row %d: %v; want %v", i, got, x.want)
		}
		if !slices.Equal(x.l, kept) {
			t.Errorf("R3: Hull of the row %d has changed its arguments to %v", i, x.l)
		}
	}
	if got := rect.Hull(); got != (api.Rect{}) {
		t.Errorf("P13.2: Hull(): %v; want none", got)
	}
}

// moved is the definition of Translate, in big integers.
func moved(r api.Rect, dx, dy int) api.Rect {
	if r.X0 >= r.X1 || r.Y0 >= r.Y1 {
		return api.Rect{}
	}
	var c [4]int
	for i, x := range [4][2]int{{r.X0, dx}, {r.Y0, dy}, {r.X1, dx}, {r.Y1, dy}} {
		sum := new(big.Int).Add(big.NewInt(int64(x[0])), big.NewInt(int64(x[1])))
		if sum.CmpAbs(big.NewInt(edge)) > 0 {
			return api.Rect{}
		}
		c[i] = int(sum.Int64())
	}
	return of(c[0], c[1], c[2], c[3])
}

func TestTranslate(t *testing.T) {
	steps := []int{0, 1, -1, 5, -5, edge - 2, edge - 1, edge, 2*edge - 2, 2*edge - 1, 2 * edge, -edge, 1 - edge, 2 - edge, -2 * edge, 1 - 2*edge, 2 - 2*edge}
	steps = append(steps, outside()...)
	// Sums with these wrap around to coordinates that are valid.
	steps = append(steps, math.MaxInt-edge, math.MinInt+edge, math.MaxInt-1, math.MinInt+1)
	for _, dx := range steps {
		for _, dy := range steps {
			for _, r := range append(large(), of(1, 2, 3, 4), of(-7, 3, -5, 9), of(3, 3, 3, 4), of(0, 9, 1, 8)) {
				if got, want := rect.Translate(r, dx, dy), moved(r, dx, dy); got != want {
					t.Errorf("P13.2: Translate(%v, %d, %d): %v; want %v", r, dx, dy, got, want)
				}
			}
			for _, r := range invalid() {
				if got := rect.Translate(r, dx, dy); got != (api.Rect{}) {
					t.Errorf("P13.2: Translate(%v, %d, %d) of what is not valid: %v; want none", r, dx, dy, got)
				}
			}
		}
	}
}

func TestTranslateBack(t *testing.T) {
	// Moved into the valid numbers, it is still not valid itself.
	for _, r := range []api.Rect{of(edge+1, 0, edge+5, 4), of(0, -edge-9, 4, -edge-3)} {
		if got := rect.Translate(r, -100, 100); got != (api.Rect{}) {
			t.Errorf("P13.2: Translate(%v, -100, 100): %v; want none", r, got)
		}
	}
	if got, want := rect.Translate(of(1, 2, 3, 4), 10, -20), of(11, -18, 13, -16); got != want {
		t.Errorf("P13.2: Translate: %v; want %v", got, want)
	}
}

// split returns the four parts that P13.3 names: for each of them the points of
// r that are not in q, and the least rectangle of them, if it has any.
func split(r, q api.Rect) []api.Rect {
	p, o := points(r), points(q)
	if count(both(p, o, func(a, b bool) bool { return a && b })) == 0 {
		return keep([]api.Rect{least(p)})
	}
	var above, below, left, right [49]bool
	for i, in := range p {
		x, y := i%7-1, i/7-1
		above[i] = in && y < q.Y0
		below[i] = in && y >= q.Y1
		rest := in && !above[i] && !below[i]
		left[i] = rest && x < q.X0
		right[i] = rest && x >= q.X1
	}
	return keep([]api.Rect{least(above), least(below), least(left), least(right)})
}

// keep returns the rectangles of l that are not zero.
func keep(l []api.Rect) []api.Rect {
	return slices.DeleteFunc(l, func(r api.Rect) bool { return r == api.Rect{} })
}

func TestSubtract(t *testing.T) {
	l := small(0, 4)
	for _, r := range l {
		for _, q := range l {
			if got, want := rect.Subtract(r, q), split(r, q); !slices.Equal(got, want) {
				t.Errorf("P13.3: Subtract(%v, %v): %v; want %v", r, q, got, want)
			}
		}
	}
}

func TestSubtractRows(t *testing.T) {
	all := of(-edge, -edge, edge, edge)
	for i, x := range []struct {
		r, q api.Rect
		want []api.Rect
	}{
		{of(0, 0, 4, 4), of(1, 1, 2, 3), []api.Rect{of(0, 0, 4, 1), of(0, 3, 4, 4), of(0, 1, 1, 3), of(2, 1, 4, 3)}},
		{all, of(-1, -2, 3, 4), []api.Rect{of(-edge, -edge, edge, -2), of(-edge, 4, edge, edge), of(-edge, -2, -1, 4), of(3, -2, edge, 4)}},
		{all, all, nil},
		{of(-3, -2, 1, 5), all, nil},
		{all, api.Rect{}, []api.Rect{all}},
		{all, of(2, 9, 2, 10), []api.Rect{all}},
		{all, of(9, 2, 8, 3), []api.Rect{all}},
		{api.Rect{}, all, nil},
		{of(4, 0, 4, 9), of(0, 0, 1, 1), nil},
		{of(4, 0, 4, 9), of(4, 0, 4, 9), nil},
		{of(-edge, 0, -edge+1, 1), of(edge-1, 0, edge, 1), []api.Rect{of(-edge, 0, -edge+1, 1)}},
	} {
		if got := rect.Subtract(x.r, x.q); !slices.Equal(got, x.want) {
			t.Errorf("P13.3: Subtract of the row %d: %v; want %v", i, got, x.want)
		}
	}
	for _, r := range invalid() {
		if got := rect.Subtract(of(0, 0, 3, 3), r); !slices.Equal(got, []api.Rect{of(0, 0, 3, 3)}) {
			t.Errorf("P13.3: Subtract({0, 0, 3, 3}, %v): %v; want all of it, as the other one is not valid", r, got)
		}
		for _, q := range []api.Rect{all, {}, of(1, 1, 2, 2), r} {
			if got := rect.Subtract(r, q); len(got) != 0 {
				t.Errorf("P13.3: Subtract(%v, %v) of what is not valid: %v; want none", r, q, got)
			}
		}
	}
}

func TestSubtractIsNew(t *testing.T) {
	r, q := of(0, 0, 4, 4), of(1, 1, 2, 3)
	for _, q := range []api.Rect{q, of(5, 5, 6, 6)} {
		first := rect.Subtract(r, q)
		want := slices.Clone(first)
		clear(first)
		if got := rect.Subtract(r, q); !slices.Equal(got, want) {
			t.Errorf("R3: Subtract(%v, %v) after a write to an earlier result: %v; want %v", r, q, got, want)
		}
	}
}
