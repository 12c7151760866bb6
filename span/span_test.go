package span_test

import (
	"math"
	"slices"
	"testing"

	"compositor/api"
	"compositor/group"
	"compositor/pixel"
	"compositor/scale"
	"compositor/span"
)

const top = 65535

// pix returns a pixel.
func pix(c0, c1, c2, a, f uint16) api.Pixel {
	return api.Pixel{C: [3]uint16{c0, c1, c2}, A: a, F: f}
}

// accum returns an accumulation.
func accum(c0, c1, c2, a, own, f uint16) api.Accum {
	return api.Accum{C: [3]uint16{c0, c1, c2}, A: a, Own: own, F: f}
}

// permitted returns pixels that are valid for max: a transparent one, one with
// shape alone, partly transparent and opaque ones.
func permitted(max uint16) []api.Pixel {
	return []api.Pixel{{}, pix(0, 0, 0, 0, max), pix(60, 0, 100, 100, 180), pix(60, 0, 100, 100, 181), pix(7, max, 9, max, max), pix(0, 8, 0, max, max)}
}

// broken returns pixels that are not valid for max, each by one sample. One of
// each of its conditions is as an opaque or a transparent pixel otherwise.
func broken(max uint16) []api.Pixel {
	l := []api.Pixel{
		pix(1, 0, 0, 0, 0), pix(0, 1, 0, 0, 0), pix(0, 0, 1, 0, 0), pix(0, 0, 0, 1, 0),
		pix(51, 0, 0, 50, 90), pix(0, 51, 0, 50, 90), pix(0, 0, 51, 50, 90), pix(0, 0, 0, 50, 49), pix(7, max, 9, max, max-1),
	}
	if max < top {
		l = append(l, pix(0, 0, 0, 0, max+1), pix(7, max, 9, max, max+1), pix(7, 0, 9, max+1, max+1), pix(max+1, 0, 9, max, max))
	}
	return l
}

// beneath is what a group has at a pixel.
type beneath struct {
	acc  api.Accum
	back api.Pixel
}

// grounds returns valid accumulations with their backdrops; some differ by the
// one or the other alone.
func grounds(max uint16) []beneath {
	return []beneath{
		{}, {accum(0, 0, 0, 0, 0, max), api.Pixel{}}, {accum(40, 50, 60, 70, 20, 30), api.Pixel{}}, {accum(40, 50, 60, 70, 20, 30), pix(80, 0, 9, 90, 90)},
		{accum(40, 50, 61, 70, 20, 30), pix(80, 0, 9, 90, 90)}, {accum(max, 0, 9, max, max, max), pix(1, 2, 3, max, max)},
	}
}

// shaken returns accumulations and backdrops that are not valid for max, each by
// one condition.
func shaken(max uint16) []beneath {
	a, b := accum(40, 50, 60, 70, 20, 30), pix(80, 0, 9, 90, 90)
	l := []beneath{
		{accum(71, 50, 60, 70, 20, 30), b}, {accum(40, 71, 60, 70, 20, 30), b}, {accum(40, 50, 71, 70, 20, 30), b}, {accum(40, 50, 60, 70, 71, 90), b}, {accum(40, 50, 60, 70, 31, 30), b},
		{a, pix(91, 0, 9, 90, 90)}, {a, pix(80, 91, 9, 90, 90)}, {a, pix(80, 0, 91, 90, 90)}, {a, pix(80, 0, 9, 90, 91)}, {a, pix(80, 0, 9, 90, 89)},
		{accum(1, 0, 0, 0, 0, 0), api.Pixel{}}, {accum(0, 0, 0, 0, 1, 1), api.Pixel{}}, {api.Accum{}, pix(0, 0, 0, 0, 1)},
	}
	if max < top {
		l = append(l, beneath{accum(40, 50, 60, max+1, 20, 30), b}, beneath{accum(40, 50, 60, 70, 20, max+1), b}, beneath{a, pix(80, 0, 9, max+1, max+1)})
	}
	return l
}

// split returns the two lists that the functions take.
func split(l []beneath) (acc []api.Accum, back []api.Pixel) {
	for _, b := range l {
		acc, back = append(acc, b.acc), append(back, b.back)
	}
	return acc, back
}

// rows calls f for each row of n elements of l, with memory of its own that it
// uses again.
func rows[T any](l []T, n int, f func(row []T)) {
	row := make([]T, n)
	var fill func(i int)
	fill = func(i int) {
		if i == n {
			f(row)
			return
		}
		for _, v := range l {
			row[i] = v
			fill(i + 1)
		}
	}
	fill(0)
}

// of returns a row of n elements that begins with those of l; the last one of
// them is repeated.
func of[T any](n int, l ...T) []T {
	for len(l) < n {
		l = append(l, l[len(l)-1])
	}
	return l[:n:n]
}

// long returns rows of n pixels of each class for max: transparent, solid
// (with all kinds of pixels), opaque and mixed ones.
func long(n int, max uint16) [][]api.Pixel {
	var l [][]api.Pixel
	for _, p := range permitted(max) {
		l = append(l, of(n, p))
	}
	p := permitted(max)
	bright := of(n, pix(0, 0, 0, max, max))
	for i := range bright {
		bright[i].C[i%3] = uint16(i)
	}
	return append(l, of(n, p[4], p[5]), of(n, p[4], p[4], p[5]), bright, of(n, p[0], p[0], p[4]), of(n, p[4], p[5], p[0], p[0], p[2]), of(n, p[2], p[3], p[1], p[1]))
}

// expect holds a result against one by one: what a function returns for each
// index.
func expect[T comparable](t *testing.T, got []T, ok bool, n int, one func(i int) (T, bool), about ...any) {
	t.Helper()
	want, good := make([]T, n), true
	for i := range want {
		v, fine := one(i)
		want[i], good = v, good && fine
	}
	if !good {
		want = nil
	}
	if ok != good || !slices.Equal(got, want) {
		t.Fatalf("P16.2: %v: %v, %v; want %v, %v", about, got, ok, want, good)
	}
}

// composite holds Composite against pixel.Composite.
func composite(t *testing.T, op, mode int, max uint16, src, dst []api.Pixel) {
	t.Helper()
	got, ok := span.Composite(op, mode, max, src, dst)
	expect(t, got, ok, len(src), func(i int) (api.Pixel, bool) { return pixel.Composite(op, mode, max, src[i], dst[i]) }, "Composite", op, mode, max, src, dst)
}

// scaled holds Scale against scale.Both.
func scaled(t *testing.T, l []api.Pixel, mask []uint16, opacity, max uint16) {
	t.Helper()
	got, ok := span.Scale(l, mask, opacity, max)
	expect(t, got, ok, len(l), func(i int) (api.Pixel, bool) {
		if len(mask) == 0 {
			return scale.Both(l[i], max, opacity, max)
		}
		return scale.Both(l[i], mask[i], opacity, max)
	}, "Scale", l, mask, opacity, max)
}

// step holds Step against group.Step.
func step(t *testing.T, knockout bool, op, mode int, max uint16, src []api.Pixel, l []beneath) {
	t.Helper()
	acc, back := split(l)
	got, ok := span.Step(knockout, op, mode, max, src, acc, back)
	expect(t, got, ok, len(src), func(i int) (api.Accum, bool) {
		return group.Step(knockout, op, mode, max, src[i], acc[i], back[i])
	}, "Step", knockout, op, mode, max, src, acc, back)
}

// result holds Result against group.Result.
func result(t *testing.T, l []beneath, max uint16) {
	t.Helper()
	acc, back := split(l)
	got, ok := span.Result(acc, back, max)
	expect(t, got, ok, len(l), func(i int) (api.Pixel, bool) { return group.Result(acc[i], back[i], max) }, "Result", acc, back, max)
}

// refused checks that there is nothing and false.
func refused[T any](t *testing.T, got []T, ok bool, about ...any) {
	t.Helper()
	if len(got) != 0 || ok {
		t.Errorf("P16.2: %v: %v, %v; want nothing, false", about, got, ok)
	}
}

// others returns numbers that are neither operators nor modes.
func others() []int {
	return []int{0, -1, -4, 13, 14, 100, 256 + 1, 256 + 4, 1<<16 + 1, 1<<32 + 4, math.MinInt, math.MinInt + 4, math.MaxInt}
}

// noDepths returns numbers that are not the maximum of a depth.
func noDepths() []uint16 {
	return []uint16{0, 1, 127, 128, 254, 256, 32767, top - 1}
}

// class is the definition of P16.1, in numbers of its own.
func class(l []api.Pixel, max uint16) int {
	empty, equal, dense := true, true, max == 255 || max == top
	for _, p := range l {
		empty = empty && p.C[0] == 0 && p.C[1] == 0 && p.C[2] == 0 && p.A == 0 && p.F == 0
		equal = equal && p == l[0]
		dense = dense && p.C[0] <= max && p.C[1] <= max && p.C[2] <= max && p.A == max && p.F == max
	}
	for i, is := range []bool{empty, equal, dense} {
		if is {
			return i + 1
		}
	}
	return 4
}

func TestClassifyExamples(t *testing.T) {
	white, black := pix(255, 255, 255, 255, 255), pix(0, 0, 0, 255, 255)
	for _, r := range []struct {
		l    []api.Pixel
		max  uint16
		want int
	}{
		{nil, 255, 1}, {[]api.Pixel{}, 0, 1}, {of(1, api.Pixel{}), 255, 1}, {of(5, api.Pixel{}), top, 1}, {of(5, api.Pixel{}), 7, 1},
		// The example of the chapter: a row of equal opaque pixels is first of all solid.
		{of(2, white), 255, 2}, {of(1, black), 255, 2}, {of(3, pix(0, 0, 0, 0, 255)), 255, 2},
		// Equal pixels need not be valid, and max does not matter then.
		{of(2, pix(9, 8, 7, 6, 5)), 255, 2}, {of(2, pix(top, 0, 0, 0, 0)), 255, 2}, {of(2, white), 0, 2}, {of(2, white), top, 2},
		{of(2, white, black), 255, 3}, {of(6, white, white, white, white, white, black), 255, 3}, {of(2, pix(0, 0, 1, top, top), pix(0, 0, 2, top, top)), top, 3},
		// Opaque for the other depth, or for none.
		{of(2, white, black), top, 4}, {of(2, pix(0, 0, 1, top, top), pix(0, 0, 2, top, top)), 255, 4}, {of(2, pix(1, 0, 0, 9, 9), pix(0, 0, 0, 9, 9)), 9, 4}, {of(2, pix(1, 0, 0, 0, 0), api.Pixel{}), 0, 4},
		{of(2, white, api.Pixel{}), 255, 4}, {of(2, api.Pixel{}, white), 255, 4}, {of(2, white, pix(0, 0, 0, 254, 255)), 255, 4}, {of(2, white, pix(0, 0, 0, 255, 254)), 255, 4}, {of(2, white, pix(256, 0, 0, 255, 255)), 255, 4},
	} {
		if got := span.Classify(r.l, r.max); got != r.want {
			t.Errorf("P16.1: Classify(%v, %d): %d; want %d", r.l, r.max, got, r.want)
		}
	}
}

func TestClassifyShortRows(t *testing.T) {
	for _, max := range []uint16{255, top, 254, 0} {
		l := append(permitted(255), pix(9, 8, 7, 6, 5), pix(7, 255, 9, 255, 254), pix(256, 0, 0, 255, 255), pix(0, 0, 0, top, top), pix(1, 0, 0, top, top))
		for n := range 5 {
			rows(l, n, func(row []api.Pixel) {
				if got := span.Classify(row, max); got != class(row, max) {
					t.Fatalf("P16.1: Classify(%v, %d): %d; want %d", row, max, got, class(row, max))
				}
			})
		}
	}
}

// One pixel at any place decides.
func TestClassifyLongRows(t *testing.T) {
	for _, max := range []uint16{255, top} {
		for _, row := range long(20, max) {
			for i := range row {
				for _, p := range append(permitted(max), broken(max)...) {
					l := slices.Clone(row)
					l[i] = p
					if got := span.Classify(l, max); got != class(l, max) {
						t.Fatalf("P16.1: Classify(%v, %d): %d; want %d", l, max, got, class(l, max))
					}
				}
			}
		}
	}
}

// The numbers come from the formulas of layers 7, 8, 11 and 12, not from their
// functions.
func TestExamples(t *testing.T) {
	half, white, red := pix(50, 100, 0, 100, 150), pix(255, 255, 255, 255, 255), pix(255, 0, 0, 255, 255)
	dst := []api.Pixel{pix(80, 0, 200, 200, 220), {}, white}
	for _, r := range []struct {
		op, mode  int
		src, want []api.Pixel
	}{
		{api.SrcOver, api.Normal, of(3, api.Pixel{}), dst}, {api.Xor, api.Difference, of(3, api.Pixel{}), dst},
		{api.SrcIn, api.Normal, of(3, api.Pixel{}), of(3, api.Pixel{})}, {api.Src, api.Screen, of(3, api.Pixel{}), of(3, api.Pixel{})},
		// 50 + 155 * 80 / 255 = 98.6.., 100, 155 * 200 / 255 = 121.5..; alpha 100 + 121.5..; shape 150 + 105 * 220 / 255
		{api.SrcOver, api.Normal, of(3, half), []api.Pixel{pix(99, 100, 122, 222, 241), half, pix(205, 255, 155, 255, 255)}},
		{api.SrcOver, api.Normal, of(3, red), of(3, red)}, {api.SrcOver, api.Normal, of(3, red, white), of(3, red, white)},
		// 55 * 255 + 255 * 80 and 255 * 200 of 65025, and red where there is nothing beneath.
		{api.SrcOver, api.Multiply, of(3, red, red, white), []api.Pixel{pix(135, 0, 0, 255, 255), red, white}},
		{api.DstOut, api.Normal, of(3, red, white), []api.Pixel{pix(0, 0, 0, 0, 220), {}, pix(0, 0, 0, 0, 255)}},
		{api.SrcOver, api.Normal, of(3, half, red, api.Pixel{}), []api.Pixel{pix(99, 100, 122, 222, 241), red, white}},
	} {
		if got, ok := span.Composite(r.op, r.mode, 255, r.src, dst); !ok || !slices.Equal(got, r.want) {
			t.Errorf("P16.2: Composite(%d, %d, 255, %v, %v): %v, %v; want %v", r.op, r.mode, r.src, dst, got, ok, r.want)
		}
	}
	for _, r := range []struct {
		l       []api.Pixel
		mask    []uint16
		opacity uint16
		want    []api.Pixel
	}{
		{of(3, api.Pixel{}), []uint16{0, 9, 255}, 77, of(3, api.Pixel{})}, {of(3, half), nil, 255, of(3, half)}, {of(3, red, white), []uint16{255, 255, 255}, 255, of(3, red, white)},
		// A half of a half is rounded twice.
		{of(3, half), []uint16{128, 0, 255}, 128, []api.Pixel{pix(13, 25, 0, 25, 38), {}, pix(25, 50, 0, 50, 75)}},
		{of(2, red, half), nil, 128, of(2, pix(128, 0, 0, 128, 128), pix(25, 50, 0, 50, 75))},
		{of(3, red, half), []uint16{0, 255, 128}, 255, []api.Pixel{{}, half, pix(25, 50, 0, 50, 75)}},
	} {
		if got, ok := span.Scale(r.l, r.mask, r.opacity, 255); !ok || !slices.Equal(got, r.want) {
			t.Errorf("P16.2: Scale(%v, %v, %d, 255): %v, %v; want %v", r.l, r.mask, r.opacity, got, ok, r.want)
		}
	}
}

func TestExamplesOfGroups(t *testing.T) {
	red, white := pix(255, 0, 0, 255, 255), pix(255, 255, 255, 255, 255)
	acc, back := []api.Accum{accum(40, 50, 60, 70, 20, 30), {}}, []api.Pixel{pix(80, 0, 9, 90, 90), {}}
	for _, knockout := range []bool{false, true} {
		for _, r := range []struct {
			src  []api.Pixel
			want []api.Accum
		}{
			{of(2, api.Pixel{}), acc}, {of(2, red), of(2, accum(255, 0, 0, 255, 255, 255))}, {of(2, red, white), []api.Accum{accum(255, 0, 0, 255, 255, 255), accum(255, 255, 255, 255, 255, 255)}},
		} {
			if got, ok := span.Step(knockout, api.SrcOver, api.Normal, 255, r.src, acc, back); !ok || !slices.Equal(got, r.want) {
				t.Errorf("P16.2: Step(%v, 4, 1, 255, %v, %v, %v): %v, %v; want %v", knockout, r.src, acc, back, got, ok, r.want)
			}
		}
	}
	// 40 - 235 * 80 / 255 is negative, 50 is above Own, 60 - 235 * 9 / 255 = 51.7.. too.
	if got, ok := span.Result(acc, back, 255); !ok || !slices.Equal(got, []api.Pixel{pix(0, 20, 20, 20, 30), {}}) {
		t.Errorf("P16.2: Result(%v, %v, 255): %v, %v", acc, back, got, ok)
	}
	acc[1], back[0] = accum(9, 20, 21, 90, 20, 30), api.Pixel{}
	if got, ok := span.Result(acc, back, 255); !ok || !slices.Equal(got, []api.Pixel{pix(20, 20, 20, 20, 30), pix(9, 20, 20, 20, 30)}) {
		t.Errorf("P16.2: Result(%v, %v, 255): %v, %v", acc, back, got, ok)
	}
}

// All rows of two pixels, also with an invalid one at each place, with every
// operator and mode and the numbers next to them.
func TestCompositeShortRows(t *testing.T) {
	for _, max := range []uint16{255, top} {
		l := append(permitted(max), broken(max)[:1]...)
		for op := range 14 {
			for mode := range 14 {
				rows(l, 2, func(src []api.Pixel) {
					rows(l, 2, func(dst []api.Pixel) { composite(t, op, mode, max, src, dst) })
				})
			}
		}
	}
}

func TestCompositeLongRows(t *testing.T) {
	for _, max := range []uint16{255, top} {
		l := long(9, max)
		for op := range 14 {
			for mode := range 14 {
				for _, src := range l {
					for _, dst := range l {
						composite(t, op, mode, max, src, dst)
					}
				}
			}
		}
	}
}

// An invalid pixel at any place of any row is noticed on both sides, also where
// the operator does not look at it.
func TestCompositeInvalidPixels(t *testing.T) {
	for _, max := range []uint16{255, top} {
		l := long(4, max)
		for op := api.Clear; op <= api.Xor; op++ {
			for _, good := range l {
				for _, other := range l {
					for _, p := range broken(max) {
						for i := range other {
							bad := slices.Clone(other)
							bad[i] = p
							got, ok := span.Composite(op, api.Normal, max, good, bad)
							refused(t, got, ok, "Composite", op, max, good, bad)
							got, ok = span.Composite(op, api.Normal, max, bad, good)
							refused(t, got, ok, "Composite", op, max, bad, good)
						}
					}
				}
			}
		}
	}
}

func TestScaleShortRows(t *testing.T) {
	for _, max := range []uint16{255, top} {
		l := append(permitted(max), broken(max)[:2]...)
		factors := []uint16{0, 1, 100, 128, max - 1, max}
		if max < top {
			factors = append(factors, max+1, top)
		}
		for _, opacity := range factors {
			rows(l, 2, func(row []api.Pixel) {
				scaled(t, row, nil, opacity, max)
				rows(factors, 2, func(mask []uint16) { scaled(t, row, mask, opacity, max) })
			})
		}
	}
}

func TestScaleLongRows(t *testing.T) {
	for _, max := range []uint16{255, top} {
		masks := [][]uint16{nil, {}, of(9, max), of(9, uint16(0)), of(9, uint16(100)), of(9, max, max, 3, 3, max), of(9, 0, max, 1, max-1), {1, 2, 3, 4, 5, 6, 7, 8, 9}}
		for _, row := range long(9, max) {
			for _, mask := range masks {
				for opacity := range uint16(256) {
					scaled(t, row, mask, opacity, max)
					scaled(t, row, mask, max-opacity, max)
				}
			}
		}
	}
}

// An invalid pixel, and a factor above the maximum, are noticed at any place.
func TestScaleInvalidRows(t *testing.T) {
	for _, max := range []uint16{255, top} {
		for _, row := range long(4, max) {
			for i := range row {
				for _, opacity := range []uint16{0, 128, max} {
					for _, p := range broken(max) {
						bad := slices.Clone(row)
						bad[i] = p
						for _, mask := range [][]uint16{nil, of(4, max), of(4, uint16(0)), {1, 2, max, 2}} {
							got, ok := span.Scale(bad, mask, opacity, max)
							refused(t, got, ok, "Scale", bad, mask, opacity, max)
						}
					}
					for _, mask := range [][]uint16{of(4, max), of(4, uint16(0))} {
						if max < top {
							mask[i] = max + 1
							got, ok := span.Scale(row, mask, opacity, max)
							refused(t, got, ok, "Scale", row, mask, opacity, max)
						}
					}
				}
			}
			if max < top {
				got, ok := span.Scale(row, nil, max+1, max)
				refused(t, got, ok, "Scale", row, max+1, max)
				got, ok = span.Scale(row, of(4, uint16(0)), top, max)
				refused(t, got, ok, "Scale", row, top, max)
			}
		}
	}
}

func TestStepShortRows(t *testing.T) {
	for _, max := range []uint16{255, top} {
		l, under := append(permitted(max), broken(max)[:1]...), append(grounds(max), shaken(max)[:1]...)
		for op := range 14 {
			for _, mode := range []int{0, api.Normal, api.Multiply, api.ColorBurn, api.SoftLight, 13} {
				rows(l, 2, func(src []api.Pixel) {
					rows(under, 2, func(b []beneath) {
						step(t, false, op, mode, max, src, b)
						step(t, true, op, mode, max, src, b)
					})
				})
			}
		}
	}
}

func TestStepLongRows(t *testing.T) {
	for _, max := range []uint16{255, top} {
		g := grounds(max)
		for op := range 14 {
			for mode := range 14 {
				for _, src := range long(9, max) {
					for _, b := range [][]beneath{of(9, g[0]), of(9, g[3]), of(9, g[2], g[2], g[3], g[3], g[4]), of(9, g[5], g[0], g[0], g[1], g[4])} {
						step(t, false, op, mode, max, src, b)
						step(t, true, op, mode, max, src, b)
					}
				}
			}
		}
	}
}

// What is not valid is noticed at any place, whatever the row is painted on or
// the row that is painted.
func TestStepInvalidRows(t *testing.T) {
	for _, max := range []uint16{255, top} {
		g := grounds(max)
		unders := [][]beneath{of(4, g[0]), of(4, g[3]), of(4, g[2], g[2], g[3], g[4])}
		for op := api.Clear; op <= api.Xor; op++ {
			for _, knockout := range []bool{false, true} {
				for _, src := range long(4, max) {
					for _, under := range unders {
						for i := range src {
							for _, b := range shaken(max) {
								bad := slices.Clone(under)
								bad[i] = b
								acc, back := split(bad)
								got, ok := span.Step(knockout, op, api.Normal, max, src, acc, back)
								refused(t, got, ok, "Step", knockout, op, max, src, bad)
							}
							acc, back := split(under)
							for _, p := range broken(max) {
								bad := slices.Clone(src)
								bad[i] = p
								got, ok := span.Step(knockout, op, api.Normal, max, bad, acc, back)
								refused(t, got, ok, "Step", knockout, op, max, bad, under)
							}
						}
					}
				}
			}
		}
	}
}

func TestResultShortRows(t *testing.T) {
	for _, max := range []uint16{255, top} {
		for n := 1; n < 4; n++ {
			rows(append(grounds(max), shaken(max)...), n, func(l []beneath) { result(t, l, max) })
		}
	}
}

// Every Own with every colour, on a transparent backdrop and on another one.
func TestResultLongRows(t *testing.T) {
	for _, k := range []uint16{0, 1, 128, 255} {
		for own := range uint16(256) {
			var l []beneath
			for c := range uint16(256) {
				l = append(l, beneath{accum(c, c/2, 255, 255, own, 255), pix(k, k, k, k, k)})
			}
			result(t, l, 255)
			for i := range l {
				l[i].acc.C, l[i].back.C[0] = l[i/3*3].acc.C, min(k, uint16(i/5%2))
			}
			result(t, l, 255)
		}
	}
}

// Operators, modes and maxima that there are not are refused for rows of every
// class, also where a pixel would stay as it is.
func TestNoOperatorModeOrDepth(t *testing.T) {
	for _, src := range long(3, 255) {
		l := []beneath{grounds(255)[0], grounds(255)[2], grounds(255)[3]}
		acc, back := split(l)
		for n := range 14 {
			for _, bad := range others() {
				for _, pair := range [][2]int{{n, bad}, {bad, n}, {bad, bad}} {
					got, ok := span.Composite(pair[0], pair[1], 255, src, src)
					refused(t, got, ok, "Composite", pair, src)
					for _, knockout := range []bool{false, true} {
						stepped, ok := span.Step(knockout, pair[0], pair[1], 255, src, acc, back)
						refused(t, stepped, ok, "Step", knockout, pair, src)
					}
				}
			}
		}
		for _, max := range noDepths() {
			got, ok := span.Composite(api.SrcOver, api.Normal, max, src, src)
			refused(t, got, ok, "Composite", max, src)
			got, ok = span.Scale(src, nil, max, max)
			refused(t, got, ok, "Scale", max, src)
			got, ok = span.Scale(src, of(3, max, 0), 0, max)
			refused(t, got, ok, "Scale", max, src)
			stepped, ok := span.Step(false, api.SrcOver, api.Normal, max, src, of(3, api.Accum{}), of(3, api.Pixel{}))
			refused(t, stepped, ok, "Step", max, src)
			got, ok = span.Result(of(3, api.Accum{}), of(3, api.Pixel{}), max)
			refused(t, got, ok, "Result", max)
		}
	}
}

// A knockout group permits src-over alone, also where nothing would be painted.
func TestKnockoutWithOtherOperators(t *testing.T) {
	acc, back := split(of(3, grounds(255)[3]))
	for op := range 14 {
		for _, src := range long(3, 255) {
			if got, ok := span.Step(true, op, api.Normal, 255, src, acc, back); ok != (op == api.SrcOver) || !ok && len(got) != 0 {
				t.Errorf("P16.2: Step(true, %d, ..) of %v: %v, %v", op, src, got, ok)
			}
		}
	}
}

func TestDifferentLengths(t *testing.T) {
	for _, max := range []uint16{255, top} {
		for _, row := range long(4, max) {
			for a := range 5 {
				for b := range 5 {
					acc, back := of(4, api.Accum{}), of(4, api.Pixel{})
					if a != b {
						got, ok := span.Composite(api.SrcOver, api.Normal, max, row[:a], row[:b])
						refused(t, got, ok, "Composite", row[:a], row[:b])
						got, ok = span.Result(acc[:a], back[:b], max)
						refused(t, got, ok, "Result", acc[:a], back[:b])
					}
					if a != b && b != 0 {
						got, ok := span.Scale(row[:a], of(4, max)[:b], max, max)
						refused(t, got, ok, "Scale", row[:a], b)
					}
					for c := range 5 {
						if a != b || b != c {
							got, ok := span.Step(false, api.SrcOver, api.Normal, max, row[:a], acc[:b], back[:c])
							refused(t, got, ok, "Step", row[:a], acc[:b], back[:c])
						}
					}
				}
			}
		}
	}
}

// Empty lists are permitted with whatever else, nil or not.
func TestEmptyLists(t *testing.T) {
	check := func(n int, ok bool, name string) {
		if n != 0 || !ok {
			t.Errorf("P16.2: %s of nothing: %d results, %v; want none, true", name, n, ok)
		}
	}
	numbers := append(others(), api.SrcOver)
	for _, max := range append(noDepths(), 255, top) {
		for _, p := range [][]api.Pixel{nil, {}} {
			for _, a := range [][]api.Accum{nil, {}} {
				got, ok := span.Result(a, p, max)
				check(len(got), ok, "Result")
				for _, op := range numbers {
					for _, mode := range numbers {
						got, ok := span.Composite(op, mode, max, nil, p)
						check(len(got), ok, "Composite")
						for _, knockout := range []bool{false, true} {
							got, ok := span.Step(knockout, op, mode, max, p, a, nil)
							check(len(got), ok, "Step")
						}
					}
				}
			}
			for _, mask := range [][]uint16{nil, {}} {
				for _, opacity := range []uint16{0, 255, 256, top} {
					got, ok := span.Scale(p, mask, opacity, max)
					check(len(got), ok, "Scale")
				}
			}
		}
	}
}

// guarded is a copy of a list with more elements behind it, and what both were.
type guarded[T comparable] struct {
	l, was []T
}

func guard[T comparable](l []T, behind T) guarded[T] {
	full := append(slices.Clone(l), behind, behind)
	return guarded[T]{full[:len(l)], slices.Clone(full)}
}

func (g guarded[T]) same() bool {
	return slices.Equal(g.l[:len(g.was)], g.was)
}

// scribble writes to all elements of a result, also to those behind its end.
func scribble[T any](l []T, v T) {
	l = l[:cap(l)]
	for i := range l {
		l[i] = v
	}
}

// R3: the arguments stay as they are, also when something is written to the
// results, and what is behind their ends has no influence.
func TestMemory(t *testing.T) {
	odd, scrap := pix(9, 8, 7, 6, 5), pix(1, 1, 1, 1, 1)
	for _, row := range long(5, 255) {
		src, mask := guard(row, odd), guard(of(5, uint16(255)), 256)
		accs, backs := split(of(5, grounds(255)[2]))
		acc, back := guard(accs, accum(9, 9, 9, 1, 1, 0)), guard(backs, odd)
		for op := api.Clear; op <= api.Xor; op++ {
			dst := guard(row, odd)
			got, ok := span.Composite(op, api.Normal, 255, src.l, dst.l)
			scribble(got, scrap)
			stepped, fine := span.Step(false, op, api.Normal, 255, src.l, acc.l, back.l)
			scribble(stepped, accum(1, 1, 1, 1, 1, 1))
			if !ok || !fine || !dst.same() {
				t.Fatalf("P16.2: Composite or Step %d of %v: %v, %v, %v", op, row, ok, fine, dst.l)
			}
		}
		plain, ok := span.Scale(src.l, nil, 255, 255)
		scribble(plain, scrap)
		masked, fine := span.Scale(src.l, mask.l, 255, 255)
		scribble(masked, scrap)
		results, good := span.Result(acc.l, back.l, 255)
		scribble(results, scrap)
		if !ok || !fine || !good || !src.same() || !mask.same() || !acc.same() || !back.same() {
			t.Fatalf("P16.2: Scale or Result of %v: %v, %v, %v, or an argument has changed", row, ok, fine, good)
		}
	}
}

// Arguments may share their memory.
func TestSharedMemory(t *testing.T) {
	for _, row := range long(6, 255) {
		for op := api.Clear; op <= api.Xor; op++ {
			composite(t, op, api.Screen, 255, row, row)
			composite(t, op, api.Normal, 255, row[1:], row[:5])
			composite(t, op, api.Normal, 255, row[:5], row[1:])
		}
	}
}
