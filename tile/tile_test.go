package tile_test

import (
	"math"
	"math/big"
	"slices"
	"testing"

	"compositor/api"
	"compositor/tile"
)

// edge is the greatest coordinate of a valid rectangle.
const edge = 1 << 30

// of returns a rectangle.
func of(x0, y0, x1, y1 int) api.Rect {
	return api.Rect{X0: x0, Y0: y0, X1: x1, Y1: y1}
}

// small returns canvases of 1 by 1 to 6 by 5 points, with corners on all sides of
// the origin and at the edges of what is valid.
func small() []api.Rect {
	var l []api.Rect
	for _, p := range [][2]int{{0, 0}, {-3, 7}, {4, -9}, {-2, -2}, {-edge, edge - 5}, {edge - 6, -edge}} {
		for w := 1; w <= 6; w++ {
			for h := 1; h <= 5; h++ {
				l = append(l, of(p[0], p[1], p[0]+w, p[1]+h))
			}
		}
	}
	return l
}

// far returns numbers that are no size of a tile of a small canvas and no
// coordinate of a valid rectangle; the low 32 bits of some are.
func far() []int {
	return []int{-edge - 1, edge + 1, 1 << 31, -1 << 31, 1<<32 - 1, 1 << 32, 1<<32 + 1, 1<<32 + 2, -1<<32 + 1, 1 << 62, -1 << 62, math.MaxInt, math.MaxInt - 1, math.MinInt, math.MinInt + 1}
}

// empty returns canvases without points: their sides do not enclose any, or they
// are not valid.
func empty() []api.Rect {
	l := []api.Rect{{}, of(3, 3, 3, 9), of(3, 3, 9, 3), of(5, 0, 2, 4), of(0, 5, 4, 2), of(9, 9, 3, 3), of(edge, edge, -edge, -edge)}
	for _, c := range far() {
		l = append(l, of(c, 0, 3, 3), of(0, c, 3, 3), of(0, 0, c, 3), of(0, 0, 3, c), of(c, c, c, c))
	}
	return append(l, of(-edge-1, 0, -edge+3, 4), of(edge-3, 0, edge+1, 4), of(math.MinInt, math.MinInt, math.MaxInt, math.MaxInt))
}

// cuts returns the parts of the numbers from lo to hi - 1, of the given size each
// but the last one: where they begin and end.
func cuts(lo, hi, size int) [][2]int {
	var l [][2]int
	for at := lo; at < hi; at++ {
		if (at-lo)%size == 0 {
			l = append(l, [2]int{at, at})
		}
		l[len(l)-1][1] = at + 1
	}
	return l
}

// tiles is the definition of the tiles of a small canvas: row by row.
func tiles(c api.Rect, w, h int) (l []api.Rect, nx, ny int) {
	columns, rows := cuts(c.X0, c.X1, w), cuts(c.Y0, c.Y1, h)
	for _, y := range rows {
		for _, x := range columns {
			l = append(l, of(x[0], y[0], x[1], y[1]))
		}
	}
	return l, len(columns), len(rows)
}

// refused checks that there are no tiles of this size.
func refused(t *testing.T, c api.Rect, w, h int) {
	t.Helper()
	if nx, ny, ok := tile.Count(c, w, h); ok || nx != 0 || ny != 0 {
		t.Errorf("P17.1: Count(%v, %d, %d): %d, %d, %v; want 0, 0, false", c, w, h, nx, ny, ok)
	}
	for _, i := range []int{0, 1, -1, math.MaxInt, math.MinInt} {
		noTile(t, c, w, h, i)
	}
	for _, p := range [][2]int{{c.X0, c.Y0}, {c.X1 - 1, c.Y1 - 1}, {0, 0}, {1, 2}} {
		noIndex(t, c, w, h, p[0], p[1])
	}
}

// noTile checks that there is no tile i.
func noTile(t *testing.T, c api.Rect, w, h, i int) {
	t.Helper()
	if r, ok := tile.Rect(c, w, h, i); ok || r != (api.Rect{}) {
		t.Errorf("P17.1: Rect(%v, %d, %d, %d): %v, %v; want none, false", c, w, h, i, r, ok)
	}
}

// noIndex checks that no tile contains the point.
func noIndex(t *testing.T, c api.Rect, w, h, x, y int) {
	t.Helper()
	if i, ok := tile.Index(c, w, h, x, y); ok || i != 0 {
		t.Errorf("P17.1: Index(%v, %d, %d, %d, %d): %d, %v; want 0, false", c, w, h, x, y, i, ok)
	}
}

// permitted calls f for each small canvas and each size that its tiles can have.
func permitted(f func(c api.Rect, w, h int)) {
	for _, c := range small() {
		for w := 1; w <= c.X1-c.X0; w++ {
			for h := 1; h <= c.Y1-c.Y0; h++ {
				f(c, w, h)
			}
		}
	}
}

func TestCount(t *testing.T) {
	permitted(func(c api.Rect, w, h int) {
		_, wantX, wantY := tiles(c, w, h)
		if nx, ny, ok := tile.Count(c, w, h); nx != wantX || ny != wantY || !ok {
			t.Errorf("P17.1: Count(%v, %d, %d): %d, %d, %v; want %d, %d, true", c, w, h, nx, ny, ok, wantX, wantY)
		}
	})
	if nx, ny, ok := tile.Count(of(0, 0, 5, 4), 2, 3); nx != 3 || ny != 2 || !ok {
		t.Errorf("P17.1: Count({0, 0, 5, 4}, 2, 3): %d, %d, %v; want 3, 2, true", nx, ny, ok)
	}
}

func TestSizesThatAreNotPermitted(t *testing.T) {
	for _, c := range small() {
		w, h := c.X1-c.X0, c.Y1-c.Y0
		for _, bad := range append([]int{0, -1, -2}, far()...) {
			refused(t, c, bad, 1)
			refused(t, c, bad, h)
			refused(t, c, 1, bad)
			refused(t, c, w, bad)
			refused(t, c, bad, bad)
		}
		for more := 1; more <= 3; more++ {
			refused(t, c, w+more, h)
			refused(t, c, w+more, 1)
			refused(t, c, w, h+more)
			refused(t, c, 1, h+more)
		}
	}
	all := of(-edge, -edge, edge, edge)
	refused(t, all, 2*edge+1, 2*edge)
	refused(t, all, 2*edge, 2*edge+1)
	refused(t, all, 0, 2*edge)
	refused(t, all, 2*edge, 0)
}

func TestEmptyCanvases(t *testing.T) {
	for _, c := range empty() {
		for _, w := range []int{0, 1, 2, -1, math.MaxInt, math.MinInt} {
			for _, h := range []int{0, 1, 2, -1, math.MaxInt, math.MinInt} {
				refused(t, c, w, h)
			}
		}
	}
}

func TestRect(t *testing.T) {
	permitted(func(c api.Rect, w, h int) {
		l, _, _ := tiles(c, w, h)
		for i, want := range l {
			if got, ok := tile.Rect(c, w, h, i); got != want || !ok {
				t.Errorf("P17.1: Rect(%v, %d, %d, %d): %v, %v; want %v, true", c, w, h, i, got, ok, want)
			}
		}
		for _, i := range append(far(), -1, -2, -len(l), len(l), len(l)+1, 2*len(l)) {
			noTile(t, c, w, h, i)
		}
	})
	if r, ok := tile.Rect(of(0, 0, 5, 4), 2, 3, 5); r != of(4, 3, 5, 4) || !ok {
		t.Errorf("P17.1: Rect({0, 0, 5, 4}, 2, 3, 5): %v, %v; want {4, 3, 5, 4}, true", r, ok)
	}
}

func TestIndex(t *testing.T) {
	permitted(func(c api.Rect, w, h int) {
		l, _, _ := tiles(c, w, h)
		for y := c.Y0 - 2; y <= c.Y1+1; y++ {
			for x := c.X0 - 2; x <= c.X1+1; x++ {
				want := slices.IndexFunc(l, func(r api.Rect) bool { return r.X0 <= x && x < r.X1 && r.Y0 <= y && y < r.Y1 })
				if want < 0 {
					noIndex(t, c, w, h, x, y)
					continue
				}
				if i, ok := tile.Index(c, w, h, x, y); i != want || !ok {
					t.Errorf("P17.1: Index(%v, %d, %d, %d, %d): %d, %v; want %d, true", c, w, h, x, y, i, ok, want)
				}
			}
		}
	})
}

func TestIndexOutsideTheCanvas(t *testing.T) {
	for _, c := range append(small(), of(-edge, -edge, edge, edge)) {
		for _, out := range far() {
			noIndex(t, c, 1, 1, out, c.Y0)
			noIndex(t, c, 1, 1, c.X0, out)
			noIndex(t, c, 1, 1, out, out)
		}
	}
}

// TestEveryPointOnce holds Rect against itself: the tiles have together as many
// points as the canvas, and each of their points is in the tile of its Index.
func TestEveryPointOnce(t *testing.T) {
	permitted(func(c api.Rect, w, h int) {
		seen := map[[2]int]bool{}
		nx, ny, _ := tile.Count(c, w, h)
		for i := range nx * ny {
			r, _ := tile.Rect(c, w, h, i)
			for y := r.Y0; y < r.Y1; y++ {
				for x := r.X0; x < r.X1; x++ {
					if got, ok := tile.Index(c, w, h, x, y); seen[[2]int{x, y}] || got != i || !ok {
						t.Errorf("P17.1: (%d, %d) is in tile %d of %v with %d, %d: Index %d, %v", x, y, i, c, w, h, got, ok)
					}
					seen[[2]int{x, y}] = true
				}
			}
		}
		if want := (c.X1 - c.X0) * (c.Y1 - c.Y0); len(seen) != want {
			t.Errorf("P17.1: the tiles of %v with %d, %d have %d points; want %d", c, w, h, len(seen), want)
		}
	})
}

// quotient returns the least integer that is not less than a / b.
func quotient(a, b int) int {
	q, r := new(big.Int).QuoRem(big.NewInt(int64(a)), big.NewInt(int64(b)), new(big.Int))
	if r.Sign() > 0 {
		q.Add(q, big.NewInt(1))
	}
	return int(q.Int64())
}

// large calls f for canvases that reach the edges of what is valid and for sizes
// of tiles from the least to the greatest.
func large(f func(c api.Rect, w, h int)) {
	for _, c := range []api.Rect{of(-edge, -edge, edge, edge), of(-edge+1, -edge, edge, edge-2), of(-edge, 7, edge, 8), of(-9, -edge, -8, edge), of(0, 0, edge, edge), of(-edge, -edge, 0, 0)} {
		width, height := c.X1-c.X0, c.Y1-c.Y0
		for _, w := range []int{1, 2, 3, 1000003, width / 2, width/2 + 1, width - 1, width} {
			for _, h := range []int{1, 2, 3, 1000003, height / 2, height/2 + 1, height - 1, height} {
				if 1 <= w && w <= width && 1 <= h && h <= height {
					f(c, w, h)
				}
			}
		}
	}
}

func TestLargeCanvases(t *testing.T) {
	large(func(c api.Rect, w, h int) {
		wantX, wantY := quotient(c.X1-c.X0, w), quotient(c.Y1-c.Y0, h)
		if nx, ny, ok := tile.Count(c, w, h); nx != wantX || ny != wantY || !ok {
			t.Fatalf("P17.1: Count(%v, %d, %d): %d, %d, %v; want %d, %d, true", c, w, h, nx, ny, ok, wantX, wantY)
		}
		for _, at := range [][2]int{{0, 0}, {wantX - 1, 0}, {0, wantY - 1}, {wantX - 1, wantY - 1}, {wantX / 2, wantY / 3}} {
			i, x, y := at[1]*wantX+at[0], c.X0+at[0]*w, c.Y0+at[1]*h
			want := of(x, y, min(x+w, c.X1), min(y+h, c.Y1))
			if got, ok := tile.Rect(c, w, h, i); got != want || !ok {
				t.Fatalf("P17.1: Rect(%v, %d, %d, %d): %v, %v; want %v, true", c, w, h, i, got, ok, want)
			}
			for _, p := range [][2]int{{x, y}, {want.X1 - 1, y}, {x, want.Y1 - 1}, {want.X1 - 1, want.Y1 - 1}} {
				if got, ok := tile.Index(c, w, h, p[0], p[1]); got != i || !ok {
					t.Fatalf("P17.1: Index(%v, %d, %d, %d, %d): %d, %v; want %d, true", c, w, h, p[0], p[1], got, ok, i)
				}
			}
		}
		noTile(t, c, w, h, wantX*wantY)
		noTile(t, c, w, h, -1)
		noIndex(t, c, w, h, c.X1, c.Y0)
		noIndex(t, c, w, h, c.X0, c.Y1)
		noIndex(t, c, w, h, c.X0-1, c.Y0)
		noIndex(t, c, w, h, c.X0, c.Y0-1)
	})
}

func TestLargeRows(t *testing.T) {
	all := of(-edge, -edge, edge, edge)
	for _, x := range []struct {
		w, h, i int
		want    api.Rect
	}{
		{1, 1, 0, of(-edge, -edge, -edge+1, -edge+1)},
		{1, 1, 1<<31 - 1, of(edge-1, -edge, edge, -edge+1)},
		{1, 1, 1 << 31, of(-edge, -edge+1, -edge+1, -edge+2)},
		{1, 1, 1<<62 - 1, of(edge-1, edge-1, edge, edge)},
		{1<<31 - 1, 1<<31 - 1, 3, of(edge-1, edge-1, edge, edge)},
		{1 << 31, 1, 5, of(-edge, -edge+5, edge, -edge+6)},
		{1, 1 << 31, 5, of(-edge+5, -edge, -edge+6, edge)},
		{1 << 31, 1 << 31, 0, all},
	} {
		if got, ok := tile.Rect(all, x.w, x.h, x.i); got != x.want || !ok {
			t.Errorf("P17.1: Rect(all, %d, %d, %d): %v, %v; want %v, true", x.w, x.h, x.i, got, ok, x.want)
		}
		if got, ok := tile.Index(all, x.w, x.h, x.want.X1-1, x.want.Y1-1); got != x.i || !ok {
			t.Errorf("P17.1: Index(all, %d, %d) of the last point of %v: %d, %v; want %d, true", x.w, x.h, x.want, got, ok, x.i)
		}
	}
	noTile(t, all, 1, 1, 1<<62)
	noTile(t, all, 1<<31, 1<<31, 1)
}

// ascending returns the numbers from 0 to n - 1.
func ascending(n int) []int {
	l := make([]int, n)
	for i := range l {
		l[i] = i
	}
	return l
}

// wanted is the definition of Order for an n that is permitted.
func wanted(l []int, n int) ([]int, bool) {
	if len(l) == 0 {
		return ascending(n), true
	}
	sorted := slices.Sorted(slices.Values(l))
	if !slices.Equal(sorted, ascending(n)) {
		return nil, false
	}
	return l, true
}

// checkOrder holds Order against the result that is wanted.
func checkOrder(t *testing.T, l []int, n int, want []int, wantOK bool) {
	t.Helper()
	kept := slices.Clone(l)
	got, ok := tile.Order(l, n)
	if ok != wantOK || !slices.Equal(got, want) {
		t.Errorf("P17.2: Order(%v, %d): %v, %v; want %v, %v", l, n, got, ok, want, wantOK)
	}
	if !slices.Equal(l, kept) {
		t.Errorf("R3: Order(%v, %d) has changed its argument to %v", kept, n, l)
	}
}

// lists returns all lists of the given length of numbers from -1 to 5.
func lists(length int) [][]int {
	l := [][]int{nil}
	for range length {
		var longer [][]int
		for _, head := range l {
			for v := -1; v <= 5; v++ {
				longer = append(longer, append(slices.Clone(head), v))
			}
		}
		l = longer
	}
	return l
}

func TestOrder(t *testing.T) {
	for length := range 6 {
		for _, l := range lists(length) {
			for n := range 7 {
				want, ok := wanted(l, n)
				checkOrder(t, l, n, want, ok)
			}
		}
	}
	checkOrder(t, []int{}, 3, []int{0, 1, 2}, true)
	checkOrder(t, []int{}, 0, nil, true)
}

func TestOrderOfNumbersThatAreNotPermitted(t *testing.T) {
	ns := append([]int{-1, -2, -3, -api.MaxPixels, api.MaxPixels + 1}, far()...)
	for _, n := range ns {
		for _, l := range [][]int{nil, {}, {0}, {1, 0}, {2, 0, 1}, {n}} {
			checkOrder(t, l, n, nil, false)
		}
	}
	for _, v := range append(far(), -1, 3, 4) {
		for i := range 3 {
			l := []int{2, 0, 1}
			l[i] = v
			checkOrder(t, l, 3, nil, false)
		}
		checkOrder(t, []int{v}, 1, nil, false)
	}
}

func TestLongOrders(t *testing.T) {
	l := ascending(api.MaxPixels + 1)
	if got, ok := tile.Order(nil, api.MaxPixels); !ok || !slices.Equal(got, l[:api.MaxPixels]) {
		t.Errorf("P17.2: Order(nil, MaxPixels): %d numbers, %v; want all in ascending order, true", len(got), ok)
	}
	if got, ok := tile.Order(l, len(l)); ok || len(got) != 0 {
		t.Errorf("P17.2: Order of a permutation of more than MaxPixels numbers: %d numbers, %v; want none, false", len(got), ok)
	}
	l = l[:api.MaxPixels]
	slices.Reverse(l)
	if got, ok := tile.Order(l, len(l)); !ok || !slices.Equal(got, l) {
		t.Errorf("P17.2: Order of a permutation of MaxPixels numbers: %d numbers, %v; want all, true", len(got), ok)
	}
	l[0] = l[1]
	if got, ok := tile.Order(l, len(l)); ok || len(got) != 0 {
		t.Errorf("P17.2: Order of MaxPixels numbers with one twice: %d numbers, %v; want none, false", len(got), ok)
	}
}

func TestOrderIsNew(t *testing.T) {
	room := []int{2, 0, 1, 7, 8, 9}
	l := room[:3]
	first, _ := tile.Order(l, 3)
	first = append(first, 5, 6)
	clear(first)
	if want := []int{2, 0, 1, 7, 8, 9}; !slices.Equal(room, want) {
		t.Errorf("R3: a write to the result of Order has changed its argument to %v; want %v", room, want)
	}
	checkOrder(t, l, 3, []int{2, 0, 1}, true)
	first, _ = tile.Order(nil, 3)
	clear(first)
	checkOrder(t, nil, 3, []int{0, 1, 2}, true)
	kept, _ := tile.Order(l, 3)
	clear(l)
	if want := []int{2, 0, 1}; !slices.Equal(kept, want) {
		t.Errorf("R3: a write to the argument of Order has changed its result to %v; want %v", kept, want)
	}
}
