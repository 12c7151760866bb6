package group_test

import (
	"math"
	"testing"

	"compositor/api"
	"compositor/blend"
	"compositor/group"
	"compositor/knockout"
	"compositor/mix"
	"compositor/operator"
	"compositor/sample"
)

const top = 65535

// pix returns a pixel.
func pix(c0, c1, c2, a, f uint16) api.Pixel {
	return api.Pixel{C: [3]uint16{c0, c1, c2}, A: a, F: f}
}

// behind returns a backdrop.
func behind(c0, c1, c2, a uint16) api.Pixel {
	return pix(c0, c1, c2, a, a)
}

// accum returns an accumulation.
func accum(c0, c1, c2, a, own, f uint16) api.Accum {
	return api.Accum{C: [3]uint16{c0, c1, c2}, A: a, Own: own, F: f}
}

// others returns numbers that are neither operators nor modes; some have the low
// bits of one.
func others() []int {
	l := []int{-256 + 1, 256 + 1, 1<<16 + 2, 1<<32 + 3, math.MinInt, math.MinInt + 4, math.MaxInt, 100}
	for n := range 40 {
		l = append(l, -n, 13+n)
	}
	return l
}

// every calls f for every operator with every mode.
func every(f func(op, mode int)) {
	for op := api.Clear; op <= api.Xor; op++ {
		for mode := api.Normal; mode <= api.Exclusion; mode++ {
			f(op, mode)
		}
	}
}

// spread returns a function that returns numbers up to a limit, all over the
// range.
type spread func(limit uint16) uint16

func newSpread() spread {
	n := uint64(1)
	return func(limit uint16) uint16 {
		n = n*6364136223846793005 + 1442695040888963407
		return uint16((n >> 33) % (uint64(limit) + 1))
	}
}

// element returns a valid pixel.
func (next spread) element(max uint16) api.Pixel {
	f := next(max)
	a := next(f)
	return pix(next(a), next(a), next(a), a, f)
}

// backdrop returns a valid backdrop.
func (next spread) backdrop(max uint16) api.Pixel {
	a := next(max)
	return behind(next(a), next(a), next(a), a)
}

// accum returns a valid accumulation.
func (next spread) accum(max uint16) api.Accum {
	a, f := next(max), next(max)
	return accum(next(a), next(a), next(a), a, next(min(a, f)), f)
}

// state is the arguments of Valid without max.
type state struct {
	acc  api.Accum
	back api.Pixel
}

// samples returns pointers to all samples of s.
func (s *state) samples() []*uint16 {
	return []*uint16{&s.acc.C[0], &s.acc.C[1], &s.acc.C[2], &s.acc.A, &s.acc.Own, &s.acc.F, &s.back.C[0], &s.back.C[1], &s.back.C[2], &s.back.A, &s.back.F}
}

// valid is the definition of the chapter.
func (s state) valid(max uint16) bool {
	a, b := s.acc, s.back
	return (max == 255 || max == top) &&
		a.C[0] <= a.A && a.C[1] <= a.A && a.C[2] <= a.A && a.Own <= a.A && a.Own <= a.F && a.A <= max && a.F <= max &&
		b.C[0] <= b.A && b.C[1] <= b.A && b.C[2] <= b.A && b.F == b.A && b.A <= max
}

// bases returns valid states for max.
func bases(max uint16) []state {
	return []state{
		{},
		{accum(9, 8, 7, 9, 5, 5), behind(1, 2, 3, 4)},
		{accum(9, 8, 7, 100, 50, 200), behind(100, 60, 30, 150)},
		{accum(9, 8, 7, 100, 0, 0), behind(9, 8, 7, 100)},
		{accum(0, max/2, max, max, max/3, max/2), behind(max/4, 0, max/5, max/2)},
		{accum(max, max, max, max, max, max), behind(max, max, max, max)},
		{accum(0, 0, 0, 0, 0, max), behind(0, 0, 0, max)},
	}
}

func TestValidExamples(t *testing.T) {
	for _, r := range []struct {
		s    state
		max  uint16
		want bool
	}{
		{state{accum(9, 8, 7, 9, 5, 5), behind(1, 2, 3, 4)}, 255, true}, {state{accum(9, 8, 7, 9, 5, 5), behind(1, 2, 3, 4)}, top, true},
		// The shape may be above and below the alpha, and the backdrop's alpha too.
		{state{accum(9, 8, 7, 100, 50, 60), behind(1, 2, 3, 200)}, 255, true}, {state{accum(9, 8, 7, 100, 50, 255), behind(1, 2, 3, 60)}, 255, true},
		{state{accum(0, 0, 0, 0, 0, 255), behind(255, 255, 255, 255)}, 255, true}, {state{accum(top, 0, top, top, 0, 0), behind(0, 0, 0, 0)}, top, true},
		// A colour of the accumulation.
		{state{accum(10, 8, 7, 9, 5, 5), behind(1, 2, 3, 4)}, 255, false}, {state{accum(9, 10, 7, 9, 5, 5), behind(1, 2, 3, 4)}, 255, false}, {state{accum(9, 8, 10, 9, 5, 5), behind(1, 2, 3, 4)}, 255, false},
		// Own is more than A, and more than F.
		{state{accum(9, 8, 7, 9, 10, 10), behind(1, 2, 3, 4)}, 255, false}, {state{accum(9, 8, 7, 9, 5, 4), behind(1, 2, 3, 4)}, 255, false},
		// A, F, and the backdrop's A are more than max.
		{state{accum(9, 8, 7, 256, 5, 5), behind(1, 2, 3, 4)}, 255, false}, {state{accum(9, 8, 7, 9, 5, 256), behind(1, 2, 3, 4)}, 255, false}, {state{accum(9, 8, 7, 9, 5, 5), behind(1, 2, 3, 256)}, 255, false},
		{state{accum(9, 8, 7, 256, 5, 256), behind(1, 2, 3, 256)}, top, true},
		// A colour of the backdrop, and its shape on both sides of its alpha.
		{state{accum(9, 8, 7, 9, 5, 5), behind(5, 2, 3, 4)}, 255, false}, {state{accum(9, 8, 7, 9, 5, 5), behind(1, 5, 3, 4)}, 255, false}, {state{accum(9, 8, 7, 9, 5, 5), behind(1, 2, 5, 4)}, 255, false},
		{state{accum(9, 8, 7, 9, 5, 5), pix(1, 2, 3, 4, 5)}, 255, false}, {state{accum(9, 8, 7, 9, 5, 5), pix(1, 2, 3, 4, 3)}, 255, false}, {state{accum(9, 8, 7, 9, 5, 5), pix(1, 2, 3, 4, 255)}, 255, false},
	} {
		if got := group.Valid(r.s.acc, r.s.back, r.max); got != r.want {
			t.Errorf("P12.1: Valid(%v, %v, %d): %v; want %v", r.s.acc, r.s.back, r.max, got, r.want)
		}
	}
}

// Any two samples of valid states are replaced by numbers at the edges.
func TestValidWithTwoSamplesReplaced(t *testing.T) {
	for _, max := range []uint16{255, top} {
		edges := []uint16{0, 1, 4, 5, 9, 100, 254, 255, 256, top - 1, top}
		for _, base := range bases(max) {
			if !group.Valid(base.acc, base.back, max) {
				t.Fatalf("P12.1: Valid(%v, %v, %d): false", base.acc, base.back, max)
			}
			for i := range base.samples() {
				for j := range i + 1 {
					for n := range len(edges) * len(edges) {
						s := base
						*s.samples()[i] = edges[n/len(edges)]
						*s.samples()[j] = edges[n%len(edges)]
						if got, want := group.Valid(s.acc, s.back, max), s.valid(max); got != want {
							t.Fatalf("P12.1: Valid(%v, %v, %d): %v; want %v", s.acc, s.back, max, got, want)
						}
					}
				}
			}
		}
	}
}

func TestMaxOfNoDepth(t *testing.T) {
	for max := range uint16(top) {
		if max == 255 {
			continue
		}
		op, mode := int(max)%12+1, int(max)/12%12+1
		for _, s := range []state{{}, {accum(max/3, max/2, 0, max/2, max/4, max), behind(max/5, 0, max/4, max/4)}, {accum(max, max, max, max, max, max), behind(max, max, max, max)}} {
			if group.Valid(s.acc, s.back, max) {
				t.Fatalf("P12.1: Valid(%v, %v, %d): true", s.acc, s.back, max)
			}
			refuseStep(t, false, op, mode, max, api.Pixel{}, s)
			refuseStep(t, true, api.SrcOver, mode, max, pix(max/2, max, 0, max, max), s)
			refuseResult(t, s, max)
		}
	}
}

func TestBegin(t *testing.T) {
	next := newSpread()
	check := func(outer api.Accum, back api.Pixel) {
		for _, r := range []struct {
			isolated, knockout bool
			acc                api.Accum
			back               api.Pixel
		}{
			{true, false, api.Accum{}, api.Pixel{}}, {true, true, api.Accum{}, api.Pixel{}},
			{false, false, accum(outer.C[0], outer.C[1], outer.C[2], outer.A, 0, 0), behind(outer.C[0], outer.C[1], outer.C[2], outer.A)},
			{false, true, accum(back.C[0], back.C[1], back.C[2], back.A, 0, 0), back},
		} {
			if acc, b := group.Begin(r.isolated, r.knockout, outer, back); acc != r.acc || b != r.back {
				t.Fatalf("P12.1: Begin(%v, %v, %v, %v): %v, %v; want %v, %v", r.isolated, r.knockout, outer, back, acc, b, r.acc, r.back)
			}
		}
	}
	check(api.Accum{}, api.Pixel{})
	check(accum(9, 8, 7, 60, 30, 200), behind(1, 2, 3, 4))
	for range 10_000 {
		check(next.accum(255), next.backdrop(255))
		check(next.accum(top), next.backdrop(top))
		// Begin knows no max and refuses nothing.
		check(accum(next(top), next(top), next(top), next(top), next(top), next(top)), pix(next(top), next(top), next(top), next(top), next(top)))
	}
}

// What a group begins with is valid if the group outside is.
func TestBeginIsValid(t *testing.T) {
	next := newSpread()
	for range 10_000 {
		for _, max := range []uint16{255, top} {
			for n := range 4 {
				outer, back := next.accum(max), next.backdrop(max)
				acc, b := group.Begin(n&1 != 0, n&2 != 0, outer, back)
				if !group.Valid(acc, b, max) {
					t.Fatalf("P12.1: Begin(%v, %v, %v, %v): %v, %v, which are not valid for %d", n&1 != 0, n&2 != 0, outer, back, acc, b, max)
				}
			}
		}
	}
}

// stepped checks one result of Step.
func stepped(t *testing.T, knock bool, op, mode int, max uint16, src api.Pixel, s state, want api.Accum) {
	if got, ok := group.Step(knock, op, mode, max, src, s.acc, s.back); got != want || !ok {
		t.Helper()
		t.Fatalf("P12.2: Step(%v, %s, %s, %d, %v, %v, %v): %v, %v; want %v, true", knock, operator.Name(op), blend.Name(mode), max, src, s.acc, s.back, got, ok, want)
	}
}

// The numbers come from the formulas of layers 6 to 8, not from their functions.
func TestStepExamples(t *testing.T) {
	src, s := pix(50, 100, 0, 100, 150), state{accum(80, 0, 200, 200, 60, 220), behind(30, 0, 40, 50)}
	for _, r := range []struct {
		op, mode int
		want     api.Accum
	}{
		{api.Clear, api.Screen, api.Accum{}}, {api.Src, api.Normal, accum(50, 100, 0, 100, 100, 150)}, {api.Dst, api.ColorBurn, s.acc},
		// 155 * 80 / 255 = 48.6.., 155 * 200 / 255 = 121.5.., 155 * 60 / 255 = 36.4.., 105 * 220 / 255 = 90.5..
		{api.SrcOver, api.Normal, accum(99, 100, 122, 222, 136, 241)}, {api.DstOut, api.Normal, accum(49, 0, 122, 122, 36, 220)},
		// 55 * 50 / 255 = 10.7.., 55 * 100 / 255 = 21.5..; own 60 + 195 * 100 / 255 = 136.4..
		{api.DstOver, api.Normal, accum(91, 22, 200, 222, 136, 241)},
		// 200 * 50 / 255 = 39.2.., 200 * 100 / 255 = 78.4..; own 60 * 100 / 255 = 23.5..; shape 150 * 220 / 255 = 129.4..
		{api.SrcIn, api.Normal, accum(39, 78, 0, 78, 24, 129)},
		// (200 * 50 + 155 * 80) / 255 = 87.8..; own (60 * 100 + 155 * 60) / 255 = 60
		{api.SrcAtop, api.Normal, accum(88, 78, 122, 200, 60, 220)},
		// (55 * 50 + 100 * 80) / 255 = 42.1..; own (195 * 100 + 100 * 60) / 255 = 100
		{api.DstAtop, api.Normal, accum(42, 22, 78, 100, 100, 150)},
		// The colours as in layer 9.
		{api.SrcOver, api.Multiply, accum(75, 22, 122, 222, 136, 241)}, {api.DstIn, api.Difference, accum(31, 0, 78, 78, 24, 129)},
		// Own (195 * 100 + 155 * 60) / 255 = 112.9..
		{api.Xor, api.Exclusion, accum(59, 22, 138, 143, 113, 241)},
		// Own 195 * 100 / 255 = 76.4.. is more than A: the result is not valid.
		{api.SrcOut, api.Lighten, accum(11, 22, 17, 22, 76, 150)},
	} {
		stepped(t, false, r.op, r.mode, 255, src, s, r.want)
	}
	// Hardly anything of 65535 is covered.
	stepped(t, false, api.SrcOver, api.Normal, top, src, s, accum(130, 100, 200, 300, 160, 369))
	// An element with a shape alone, and no element.
	stepped(t, false, api.SrcOver, api.Normal, 255, pix(0, 0, 0, 0, 255), s, accum(80, 0, 200, 200, 60, 255))
	stepped(t, false, api.SrcOver, api.SoftLight, 255, api.Pixel{}, s, s.acc)
	// An opaque one.
	stepped(t, false, api.SrcOver, api.Normal, top, pix(1, 2, top, top, top), s, accum(1, 2, top, top, top, top))
}

func TestKnockoutStepExamples(t *testing.T) {
	src, s := pix(50, 100, 0, 100, 150), state{accum(80, 0, 200, 200, 60, 220), behind(30, 0, 40, 50)}
	for _, r := range []struct {
		mode int
		src  api.Pixel
		s    state
		want api.Accum
	}{
		// 50 + (105 * 80 + 50 * 30) / 255 = 88.8.., 100, (105 * 200 + 50 * 40) / 255 = 90.1..;
		// 100 + (105 * 200 + 50 * 50) / 255 = 192.1.., 100 + 105 * 60 / 255 = 124.7..
		{api.Normal, src, s, accum(89, 100, 90, 192, 125, 241)},
		// (105 * 80 + 50 * 30 + 205 * 50 + 50 * 30) / 255 = 84.9.., 205 * 100 / 255 = 80.3..
		{api.Multiply, src, s, accum(85, 80, 90, 192, 125, 241)},
		// Without a backdrop: 50 + 105 * 80 / 255 = 82.9.., 105 * 200 / 255 = 82.3..
		{api.Multiply, src, state{s.acc, api.Pixel{}}, accum(83, 100, 82, 182, 125, 241)},
		// A hole that shows the backdrop, a part of one, and no element.
		{api.Normal, pix(0, 0, 0, 0, 255), s, accum(30, 0, 40, 50, 0, 255)},
		// (155 * 80 + 100 * 30) / 255 = 60.3.., (155 * 200 + 100 * 40) / 255 = 137.2.., (155 * 200 + 100 * 50) / 255 = 141.1.., 155 * 60 / 255 = 36.4.., 100 + 155 * 220 / 255
		{api.Screen, pix(0, 0, 0, 0, 100), s, accum(60, 0, 137, 141, 36, 234)},
		{api.Darken, api.Pixel{}, s, s.acc},
		// An opaque element.
		{api.Normal, pix(1, 2, 3, 255, 255), s, accum(1, 2, 3, 255, 255, 255)},
	} {
		stepped(t, true, api.SrcOver, r.mode, 255, r.src, r.s, r.want)
	}
	// (top - 150) * 80 / top = 79.8.., 50 * 30 / top = 0.0..: 50 + 80; 200 * 65385 / top = 199.5..; 200 + 100; 60 + 100; 150 + 219.4..
	stepped(t, true, api.SrcOver, api.Normal, top, src, s, accum(130, 100, 200, 300, 160, 369))
}

// checkStep holds Step of valid arguments against its definition.
func checkStep(t *testing.T, knock bool, op, mode int, max uint16, src api.Pixel, s state) {
	var want api.Accum
	for i := range 3 {
		if knock {
			want.C[i], _ = knockout.Color(mode, max, src.C[i], src.A, src.F, s.acc.C[i], s.back.C[i], s.back.A)
		} else {
			want.C[i], _ = mix.Color(op, mode, max, src.C[i], src.A, s.acc.C[i], s.acc.A)
		}
	}
	if knock {
		want.A, _ = knockout.Alpha(max, src.A, src.F, s.acc.A, s.back.A)
		want.Own, _ = knockout.Own(max, src.A, src.F, s.acc.Own)
	} else {
		want.A = operator.Alpha(op, src.A, s.acc.A, max)
		want.Own = operator.Alpha(op, src.A, s.acc.Own, max)
	}
	want.F = operator.Shape(op, src.F, s.acc.F, max)
	stepped(t, knock, op, mode, max, src, s, want)
}

func TestStepSpread(t *testing.T) {
	next := newSpread()
	for _, max := range []uint16{255, top} {
		every(func(op, mode int) {
			for range 300 {
				checkStep(t, false, op, mode, max, next.element(max), state{next.accum(max), next.backdrop(max)})
			}
			if op != api.SrcOver {
				return
			}
			for range 3000 {
				checkStep(t, true, op, mode, max, next.element(max), state{next.accum(max), next.backdrop(max)})
			}
		})
	}
}

func TestStepAtTheEdges(t *testing.T) {
	for _, max := range []uint16{255, top} {
		elements := []api.Pixel{{}, pix(0, 0, 0, 0, 1), pix(0, 0, 0, 0, max), pix(0, 1, 1, 1, 1), pix(max/4, 0, max/2, max/2, max/2), pix(max/4, 0, max/2, max/2, max), pix(0, max/2, max, max, max), pix(max, max, max, max, max)}
		every(func(op, mode int) {
			for _, src := range elements {
				for _, s := range bases(max) {
					checkStep(t, false, op, mode, max, src, s)
					checkStep(t, true, api.SrcOver, mode, max, src, s)
				}
			}
		})
	}
}

// The backdrop has no effect on a step if the group is no knockout group.
func TestStepWithoutKnockoutIgnoresTheBackdrop(t *testing.T) {
	next := newSpread()
	every(func(op, mode int) {
		for range 50 {
			src, acc := next.element(255), next.accum(255)
			want, _ := group.Step(false, op, mode, 255, src, acc, api.Pixel{})
			stepped(t, false, op, mode, 255, src, state{acc, next.backdrop(255)}, want)
		}
	})
}

// The first element of a knockout group is painted as it is in other groups.
func TestFirstStepOfKnockoutGroups(t *testing.T) {
	next := newSpread()
	for _, max := range []uint16{255, top} {
		for mode := api.Normal; mode <= api.Exclusion; mode++ {
			for n := range 2000 {
				src := next.element(max)
				acc, back := group.Begin(n%4 == 0, n%3 == 0, next.accum(max), next.backdrop(max))
				want, _ := group.Step(false, api.SrcOver, mode, max, src, acc, back)
				stepped(t, true, api.SrcOver, mode, max, src, state{acc, back}, want)
			}
		}
	}
}

// refuseStep checks that P12.2 refuses these arguments.
func refuseStep(t *testing.T, knock bool, op, mode int, max uint16, src api.Pixel, s state) {
	if got, ok := group.Step(knock, op, mode, max, src, s.acc, s.back); got != (api.Accum{}) || ok {
		t.Helper()
		t.Fatalf("P12.2: Step(%v, %d, %d, %d, %v, %v, %v): %v, %v; want zeros and false", knock, op, mode, max, src, s.acc, s.back, got, ok)
	}
}

func TestNoOperatorOrMode(t *testing.T) {
	src := pix(60, 0, 100, 100, 200)
	for _, n := range others() {
		for _, s := range bases(255) {
			for m := range 14 {
				refuseStep(t, false, n, m, 255, src, s)
				refuseStep(t, false, m, n, 255, src, s)
				refuseStep(t, true, n, m, 255, src, s)
				refuseStep(t, true, m, n, 255, src, s)
				refuseStep(t, false, n, m, top, api.Pixel{}, s)
				refuseStep(t, false, m, n, top, api.Pixel{}, s)
				refuseStep(t, true, n, m, top, api.Pixel{}, s)
				refuseStep(t, true, m, n, top, api.Pixel{}, s)
			}
		}
	}
}

func TestKnockoutWithOtherOperators(t *testing.T) {
	every(func(op, mode int) {
		if op == api.SrcOver {
			return
		}
		for _, max := range []uint16{255, top} {
			for _, s := range bases(max) {
				refuseStep(t, true, op, mode, max, api.Pixel{}, s)
				refuseStep(t, true, op, mode, max, pix(60, 0, 100, 100, 200), s)
				refuseStep(t, true, op, mode, max, pix(max, max, max, max, max), s)
			}
		}
	})
}

func TestElementsThatAreNotValid(t *testing.T) {
	bad := func(max uint16) []api.Pixel {
		l := []api.Pixel{
			pix(1, 0, 0, 0, 0), pix(0, 1, 0, 0, 0), pix(0, 0, 1, 0, 0), pix(0, 0, 0, 1, 0), pix(0, 0, 0, max, max-1),
			pix(8, 7, 7, 7, 9), pix(7, 8, 7, 7, 9), pix(7, 7, 8, 7, 9), pix(7, 7, 7, 9, 8), pix(max, 0, 0, max-1, max), pix(0, 0, max, 0, max),
		}
		if max < top {
			l = append(l, pix(0, 0, 0, 0, max+1), pix(1, 2, 3, max, max+1), pix(0, 0, 0, max+1, max+1), pix(0, 0, 0, 0, top), pix(top, top, top, top, top))
		}
		return l
	}
	every(func(op, mode int) {
		for _, max := range []uint16{255, top} {
			for _, src := range bad(max) {
				for _, s := range bases(max) {
					refuseStep(t, false, op, mode, max, src, s)
					refuseStep(t, true, op, mode, max, src, s)
				}
			}
		}
	})
}

// invalid returns states that are not valid for max, each by one sample or two.
func invalid(max uint16) []state {
	var l []state
	for _, base := range bases(max) {
		for i := range base.samples() {
			for _, n := range []uint16{0, 1, 5, 10, 101, 151, 201, 254, 256, top - 1, top} {
				s := base
				*s.samples()[i] = n
				if !s.valid(max) {
					l = append(l, s)
				}
				// A backdrop whose shape goes with its alpha.
				s.back.F = s.back.A
				if !s.valid(max) {
					l = append(l, s)
				}
			}
		}
	}
	return l
}

func TestStatesThatAreNotValid(t *testing.T) {
	for _, max := range []uint16{255, top} {
		for n, s := range invalid(max) {
			refuseResult(t, s, max)
			mode := n%12 + 1
			for _, src := range []api.Pixel{{}, pix(60, 0, 100, 100, 200), pix(max, max, max, max, max)} {
				for op := api.Clear; op <= api.Xor; op++ {
					refuseStep(t, false, op, mode, max, src, s)
					refuseStep(t, true, op, mode, max, src, s)
				}
			}
		}
	}
}

// refuseResult checks that P12.3 refuses these arguments.
func refuseResult(t *testing.T, s state, max uint16) {
	if got, ok := group.Result(s.acc, s.back, max); got != (api.Pixel{}) || ok {
		t.Helper()
		t.Fatalf("P12.3: Result(%v, %v, %d): %v, %v; want zeros and false", s.acc, s.back, max, got, ok)
	}
}

// resulted checks one result of Result.
func resulted(t *testing.T, s state, max uint16, want api.Pixel) {
	if got, ok := group.Result(s.acc, s.back, max); got != want || !ok {
		t.Helper()
		t.Fatalf("P12.3: Result(%v, %v, %d): %v, %v; want %v, true", s.acc, s.back, max, got, ok, want)
	}
}

func TestResultExamples(t *testing.T) {
	for _, r := range []struct {
		s    state
		max  uint16
		want api.Pixel
	}{
		// A group without elements, and one that is isolated.
		{state{accum(9, 8, 7, 60, 0, 0), behind(9, 8, 7, 60)}, 255, api.Pixel{}}, {state{}, top, api.Pixel{}},
		{state{accum(40, 0, 80, 80, 80, 90), api.Pixel{}}, 255, pix(40, 0, 80, 80, 90)},
		// An opaque element: nothing of the backdrop is left to be removed.
		{state{accum(1, 200, 0, 255, 255, 255), behind(255, 255, 255, 255)}, 255, pix(1, 200, 0, 255, 255)}, {state{accum(1, 200, top, top, top, top), behind(top, top, top, top)}, top, pix(1, 200, top, top, top)},
		// 155 * 100 / 255 = 60.78..: 60 - 60.78.. is negative, 61 - 60.78.. is less than a half; 155 * 99 / 255 = 60.1..: 61 - 60.1..
		{state{accum(60, 61, 61, 200, 100, 255), behind(100, 100, 99, 100)}, 255, pix(0, 0, 1, 100, 255)},
		// 59 - 60.78.. is less than -1; the others are far below 0.
		{state{accum(59, 0, 30, 200, 100, 130), behind(100, 100, 255, 255)}, 255, pix(0, 0, 0, 100, 130)},
		// 155 * 100 / 255 = 60.78..: 161 - 60.78.. = 100.2.., 162 - 60.78.. is more than Own, as is 101 alone.
		{state{accum(161, 162, 101, 200, 100, 255), behind(100, 100, 0, 100)}, 255, pix(100, 100, 100, 100, 255)},
		// 127 * 1 / 255 and 128 * 1 / 255 are on the two sides of 1 / 2: 9 - 0.498.. and 9 - 0.501..
		{state{accum(9, 9, 9, 255, 128, 128), behind(1, 0, 2, 2)}, 255, pix(9, 9, 8, 128, 128)}, {state{accum(9, 9, 9, 255, 127, 255), behind(1, 0, 2, 2)}, 255, pix(8, 9, 8, 127, 255)},
		{state{accum(9, 9, 9, top, 32768, top), behind(1, 0, 2, 2)}, top, pix(9, 9, 8, 32768, top)}, {state{accum(9, 9, 9, top, 32767, top), behind(1, 0, 2, 2)}, top, pix(8, 9, 8, 32767, top)},
		// The products need 32 bits: 65535 - 65534 * 65535 / 65535, and 65534 * 1 / 65535 = 0.99..
		{state{accum(top, top, top, top, 1, 1), behind(top, top-1, 0, top)}, top, pix(1, 1, 1, 1, 1)}, {state{accum(top-1, 1, 2, top, 1, 1), behind(top, 1, 1, top)}, top, pix(0, 0, 1, 1, 1)},
	} {
		resulted(t, r.s, r.max, r.want)
	}
}

// removed returns the colour that P12.3 asks for.
func removed(max, own, c, k uint16) uint16 {
	m := int64(max)
	n := m*int64(c) - (m-int64(own))*int64(k)
	// The nearest integer is (2n + m) / 2m, rounded down.
	if 2*n+m < 0 {
		return 0
	}
	return uint16(min((2*n+m)/(2*m), int64(own)))
}

// checkResult holds Result of valid arguments against its definition.
func checkResult(t *testing.T, s state, max uint16) {
	want := api.Pixel{A: s.acc.Own, F: s.acc.F}
	for i := range 3 {
		want.C[i] = removed(max, s.acc.Own, s.acc.C[i], s.back.C[i])
	}
	resulted(t, s, max, want)
	if !sample.Valid(want, max) {
		t.Fatalf("P12.3: Result(%v, %v, %d): %v, which is not valid", s.acc, s.back, max, want)
	}
}

// Every Own with every colour of the group and of the backdrop.
func TestResultOf8Bits(t *testing.T) {
	for own := range uint16(256) {
		for k := range uint16(256) {
			for c := uint16(0); c < 256; c += 3 {
				checkResult(t, state{accum(c, min(c+1, 255), min(c+2, 255), 255, own, own+(255-own)/4), behind(k, k, k, 255)}, 255)
			}
		}
	}
}

func TestResultOf16Bits(t *testing.T) {
	edges := []uint16{0, 1, 2, 255, 256, 257, 21845, 32767, 32768, 43690, top - 2, top - 1, top}
	for n := range 1 << 16 {
		for i, e := range edges {
			x, y := uint16(n), edges[(n+i)%len(edges)]
			checkResult(t, state{accum(x, e, y, top, y, top), behind(e, x, x, top)}, top)
			checkResult(t, state{accum(e, y, x, top, x, x), behind(y, e, e, top)}, top)
		}
	}
}

func TestResultSpread(t *testing.T) {
	next := newSpread()
	for range 300_000 {
		checkResult(t, state{next.accum(255), next.backdrop(255)}, 255)
		checkResult(t, state{next.accum(top), next.backdrop(top)}, top)
	}
}

// The colours where the rest passes a half: c is next to what is removed.
func TestResultAtItsSteps(t *testing.T) {
	next := newSpread()
	for _, max := range []uint16{255, top} {
		for range 100_000 {
			own, k, want := next(max), next(max), next(max)
			n := uint64(max-own)*uint64(k)/uint64(max) + uint64(min(want, own))
			for _, c := range []uint64{n, n + 1, n + 2} {
				if c <= uint64(max) {
					x := uint16(c)
					checkResult(t, state{accum(x, x, x, max, own, max), behind(k, k, k, max)}, max)
				}
			}
		}
	}
}

// A group without elements is transparent, whatever is beneath it.
func TestGroupWithoutElements(t *testing.T) {
	next := newSpread()
	for range 10_000 {
		for _, max := range []uint16{255, top} {
			for n := range 4 {
				acc, back := group.Begin(n&1 != 0, n&2 != 0, next.accum(max), next.backdrop(max))
				resulted(t, state{acc, back}, max, api.Pixel{})
			}
		}
	}
}

// Sequences of src-over elements keep everything valid, and an opaque element is
// the result.
func TestSequencesOfSrcOver(t *testing.T) {
	next := newSpread()
	for _, max := range []uint16{255, top} {
		for n := range 400 {
			knock := n&4 != 0
			acc, back := group.Begin(n&1 != 0, n&2 != 0, next.accum(max), next.backdrop(max))
			for k := range 40 {
				after, ok := group.Step(knock, api.SrcOver, k%12+1, max, next.element(max), acc, back)
				if !ok || !group.Valid(after, back, max) {
					t.Fatalf("P12.2: Step of %v on %v: %v, %v, which are not valid", acc, back, after, ok)
				}
				acc = after
			}
			src := next.element(max)
			src.A, src.F = max, max
			acc, _ = group.Step(knock, api.SrcOver, api.Normal, max, src, acc, back)
			resulted(t, state{acc, back}, max, src)
		}
	}
}

// Without a backdrop Own stays equal to A, and the result is what has been
// accumulated.
func TestSequencesWithoutBackdrop(t *testing.T) {
	next := newSpread()
	for _, max := range []uint16{255, top} {
		for range 20 {
			acc, back := group.Begin(true, false, next.accum(max), next.backdrop(max))
			every(func(op, mode int) {
				after, ok := group.Step(false, op, mode, max, next.element(max), acc, back)
				if !ok || after.Own != after.A || !group.Valid(after, back, max) {
					t.Fatalf("P12.2: Step(%s, %s) of %v: %v, %v", operator.Name(op), blend.Name(mode), acc, after, ok)
				}
				resulted(t, state{after, back}, max, api.Pixel{C: after.C, A: after.A, F: after.F})
				acc = after
			})
		}
	}
}
