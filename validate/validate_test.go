package validate_test

import (
	"math"
	"math/big"
	"slices"
	"testing"

	"compositor/api"
	"compositor/image"
	"compositor/validate"
)

// far returns numbers that no field permits; the low 32 bits of some are numbers
// that many fields permit.
func far() []int {
	return []int{1 << 31, -1 << 31, 1<<32 - 1, 1 << 32, 1<<32 + 1, 1<<32 + 2, -1<<32 + 1, 1 << 62, -1 << 62, math.MaxInt, math.MinInt, math.MinInt + 1}
}

// draw returns a Draw that is permitted everywhere.
func draw() api.Op {
	return api.Op{Kind: api.Draw, Opacity: 200, Operator: api.SrcOver, Mode: api.Multiply}
}

// with returns a Draw with this operator.
func with(op int) api.Op {
	d := draw()
	d.Operator = op
	return d
}

// push returns a Push.
func push(isolated, knockout bool) api.Op {
	return api.Op{Kind: api.Push, Opacity: 100, Operator: api.SrcOver, Mode: api.Screen, Isolated: isolated, Knockout: knockout}
}

// pop returns a Pop.
func pop() api.Op {
	return api.Op{Kind: api.Pop}
}

// pushes returns n isolated groups.
func pushes(n int) []api.Op {
	return slices.Repeat([]api.Op{push(true, false)}, n)
}

// valid returns a valid script with three images, the last of which is not solid.
func valid() api.Script {
	m, _ := image.Of(2, 1, []api.Pixel{{C: [3]uint16{1, 2, 3}, A: 3, F: 4}, {A: 255, F: 255}})
	d := draw()
	d.Image, d.X, d.Y, d.Mask, d.MaskX, d.MaskY = 2, -5, 7, 2, 1, -1
	return api.Script{
		Bits: 8, Canvas: api.Rect{X0: -2, Y0: 1, X1: 3, Y1: 5}, TileW: 2, TileH: 3, Order: []int{5, 0, 2, 1, 4, 3},
		Images: []api.Image{image.Solid(2, 2, api.Pixel{A: 7, F: 9}), image.Solid(1, 1, api.Pixel{F: 255}), m},
		Ops:    []api.Op{draw(), push(false, true), push(true, false), d, pop(), pop()},
	}
}

// copied returns a copy of s that shares no memory with it.
func copied(s api.Script) api.Script {
	s.Order, s.Ops, s.Images = slices.Clone(s.Order), slices.Clone(s.Ops), slices.Clone(s.Images)
	for i := range s.Images {
		for k, p := range s.Images[i].Planes {
			s.Images[i].Planes[k].S = slices.Clone(p.S)
		}
	}
	return s
}

// same reports whether two scripts are the same, field by field.
func same(s, q api.Script) bool {
	if s.Bits != q.Bits || s.Canvas != q.Canvas || s.TileW != q.TileW || s.TileH != q.TileH || !slices.Equal(s.Order, q.Order) || !slices.Equal(s.Ops, q.Ops) {
		return false
	}
	return slices.EqualFunc(s.Images, q.Images, func(m, n api.Image) bool {
		for i, p := range m.Planes {
			r := n.Planes[i]
			if p.W != r.W || p.H != r.H || p.Stride != r.Stride || !slices.Equal(p.S, r.S) {
				return false
			}
		}
		return m.W == n.W && m.H == n.H && m.Solid == n.Solid && m.Color == n.Color
	})
}

// frames checks the error of Frame, and that Ops and Check return it too, with 0,
// whatever is wrong with the images and the operations.
func frames(t *testing.T, s api.Script, want api.Errno) {
	t.Helper()
	if got := validate.Frame(s); got != want {
		t.Errorf("P20.1: Frame of %d bits, %v, %d by %d, an order of %d, %d images, %d operations: %d; want %d", s.Bits, s.Canvas, s.TileW, s.TileH, len(s.Order), len(s.Images), len(s.Ops), got, want)
	}
	if want == api.OK {
		return
	}
	if got, at := validate.Ops(s); got != want || at != 0 {
		t.Errorf("P20.3: Ops of a script whose Frame is %d: %d, %d", want, got, at)
	}
	if got, at := validate.Check(s); got != want || at != 0 {
		t.Errorf("P20.4: Check of a script whose Frame is %d: %d, %d", want, got, at)
	}
}

func TestFrameBits(t *testing.T) {
	for bits := -70; bits <= 70; bits++ {
		want := api.ErrBits
		if bits == 8 || bits == 16 {
			want = api.OK
		}
		s := valid()
		s.Bits = bits
		frames(t, s, want)
	}
	for _, bits := range append(far(), 255, 256, 65535, 1<<32+8, 1<<32+16) {
		s := valid()
		s.Bits = bits
		frames(t, s, api.ErrBits)
	}
}

// canvasError is the definition of ErrCanvas.
func canvasError(c api.Rect) api.Errno {
	for _, v := range []int{c.X0, c.Y0, c.X1, c.Y1} {
		if v < -1<<30 || v > 1<<30 {
			return api.ErrCanvas
		}
	}
	if c.X0 >= c.X1 || c.Y0 >= c.Y1 || c.X0 < -1<<20 || c.X0 > 1<<20 || c.Y0 < -1<<20 || c.Y0 > 1<<20 {
		return api.ErrCanvas
	}
	n := new(big.Int).Mul(big.NewInt(int64(c.X1-c.X0)), big.NewInt(int64(c.Y1-c.Y0)))
	if n.Cmp(big.NewInt(1<<24)) > 0 {
		return api.ErrCanvas
	}
	return api.OK
}

func TestFrameCanvas(t *testing.T) {
	origins := append(far(), 0, 1, -1, 9, 1<<20-1, 1<<20, 1<<20+1, 1-1<<20, -1<<20, -1<<20-1, 1<<24, 1<<30-1, 1<<30, -1<<30, -1<<30-1)
	sides := [][2]int{{1, 1}, {0, 3}, {3, 0}, {-1, 4}, {4, -1}, {1 << 12, 1 << 12}, {1 << 12, 1<<12 + 1}, {1<<12 + 1, 1 << 12}, {1 << 24, 1}, {1, 1 << 24}, {1<<24 + 1, 1}, {1, 1<<24 + 1}, {3, 5592405}, {3, 5592406}, {1 << 29, 1 << 29}, {1 << 30, 1 << 30}, {1<<32 + 1, 1}, {1, 1<<32 + 1}, {1 << 33, 1 << 33}, {math.MinInt, 1}, {1, math.MinInt}}
	permitted := 0
	for _, x := range origins {
		for _, y := range origins {
			for _, n := range sides {
				s := valid()
				s.Order, s.TileW, s.TileH = nil, 1, 1
				s.Canvas = api.Rect{X0: x, Y0: y, X1: x + n[0], Y1: y + n[1]}
				want := canvasError(s.Canvas)
				frames(t, s, want)
				if want == api.OK {
					permitted++
				}
			}
		}
	}
	if permitted < 100 {
		t.Errorf("only %d canvases of the test are permitted", permitted)
	}
}

func TestFrameTile(t *testing.T) {
	for _, c := range []api.Rect{{X0: -2, Y0: 1, X1: 3, Y1: 5}, {X0: 1 << 20, Y0: -1 << 20, X1: 1<<20 + 1, Y1: 7 - 1<<20}, {X1: 1 << 24, Y1: 1}, {X1: 1, Y1: 1 << 24}} {
		width, height := c.X1-c.X0, c.Y1-c.Y0
		for _, w := range append(far(), -1, 0, 1, 2, width-1, width, width+1) {
			for _, h := range append(far(), -1, 0, 1, 2, height-1, height, height+1) {
				want := api.OK
				if w < 1 || w > width || h < 1 || h > height {
					want = api.ErrTile
				}
				s := valid()
				s.Canvas, s.TileW, s.TileH, s.Order = c, w, h, nil
				frames(t, s, want)
			}
		}
	}
}

// orders returns all lists of n numbers from -1 to n, and whether each number from
// 0 to n - 1 is there.
func orders(n int) (l [][]int, ok []bool) {
	l = [][]int{nil}
	for range n {
		var longer [][]int
		for _, o := range l {
			for v := -1; v <= n; v++ {
				longer = append(longer, append(slices.Clone(o), v))
			}
		}
		l = longer
	}
	for _, o := range l {
		all := true
		for v := range n {
			all = all && slices.Contains(o, v)
		}
		ok = append(ok, all)
	}
	return l, ok
}

func TestFrameOrder(t *testing.T) {
	s := valid()
	for n := 1; n <= 4; n++ {
		s.Canvas, s.TileW, s.TileH = api.Rect{X1: n, Y1: 1}, 1, 1
		if n == 4 {
			// Four tiles, of which the last ones of a row and of a column are smaller.
			s.Canvas, s.TileW, s.TileH = api.Rect{X0: 9, Y0: -9, X1: 14, Y1: -4}, 3, 4
		}
		l, ok := orders(n)
		for i, o := range l {
			s.Order = o
			want := api.ErrOrder
			if ok[i] {
				want = api.OK
			}
			frames(t, s, want)
		}
		for _, v := range far() {
			s.Order = []int{0, 1, 2, 3}[:n]
			s.Order[n-1] = v
			frames(t, s, api.ErrOrder)
		}
		s.Order = []int{0, 1, 2, 3, 4}[:n+1]
		frames(t, s, api.ErrOrder)
		s.Order = []int{0, 1, 2, 3, 4}[:n-1]
		if n > 1 {
			frames(t, s, api.ErrOrder)
		}
		for _, o := range [][]int{nil, {}, make([]int, 0, 7)} {
			s.Order = o
			frames(t, s, api.OK)
		}
	}
	s = valid()
	s.Canvas, s.TileW, s.TileH = api.Rect{X1: 1 << 12, Y1: 1 << 12}, 1, 1
	s.Order = make([]int, 1<<24)
	frames(t, s, api.ErrOrder)
	for i := range s.Order {
		s.Order[i] = len(s.Order) - 1 - i
	}
	frames(t, s, api.OK)
	s.Order[1<<24-1] = 1
	frames(t, s, api.ErrOrder)
}

func TestFrameCount(t *testing.T) {
	for _, images := range []int{0, 1, 63, 64, 65, 66, 256, 320} {
		for _, ops := range []int{0, 1, 64, 4095, 4096, 4097, 4098, 65536, 65537} {
			want := api.OK
			if images > 64 || ops > 4096 {
				want = api.ErrCount
			}
			s := valid()
			s.Images, s.Ops = make([]api.Image, images), make([]api.Op, ops)
			frames(t, s, want)
		}
	}
}

// TestFrameFirst checks which of several errors is returned: the one that is named
// first.
func TestFrameFirst(t *testing.T) {
	spoil := []func(s *api.Script){
		func(s *api.Script) { s.Bits = 9 },
		func(s *api.Script) { s.Canvas.X0, s.Canvas.X1 = 1<<20+1, 1<<20+6 },
		func(s *api.Script) { s.TileH = 0 },
		func(s *api.Script) { s.Order = []int{0, 0} },
		func(s *api.Script) { s.Images = make([]api.Image, 65) },
	}
	for set := range 1 << len(spoil) {
		s, want := valid(), api.OK
		for i, f := range slices.Backward(spoil) {
			if set&(1<<i) != 0 {
				f(&s)
				want = api.ErrBits + api.Errno(i)
			}
		}
		frames(t, s, want)
		s.Ops = make([]api.Op, 4097)
		if want == api.OK {
			want = api.ErrCount
		}
		frames(t, s, want)
	}
}

// change is one change of an operation.
type change func(o *api.Op)

// changes returns changes of each field, to permitted values and to others, for a
// script with three images.
func changes() []change {
	var l []change
	add := func(field func(o *api.Op) *int, values ...int) {
		for _, v := range values {
			l = append(l, func(o *api.Op) { *field(o) = v })
		}
	}
	add(func(o *api.Op) *int { return &o.Kind }, -1, 0, 1, 2, 3, 4, 1<<32+1, 1<<32+2, 1<<32+3, math.MinInt)
	add(func(o *api.Op) *int { return &o.Image }, -1, 0, 1, 2, 3, 4, 1<<32+1, math.MaxInt, math.MinInt)
	add(func(o *api.Op) *int { return &o.Mask }, -1, 0, 1, 3, 4, 1<<32+1, math.MaxInt, math.MinInt)
	for _, f := range []func(o *api.Op) *int{
		func(o *api.Op) *int { return &o.X }, func(o *api.Op) *int { return &o.Y },
		func(o *api.Op) *int { return &o.MaskX }, func(o *api.Op) *int { return &o.MaskY },
	} {
		add(f, 0, 1, -1, 1<<20, 1<<20+1, -1<<20, -1<<20-1, 1<<32, math.MaxInt, math.MinInt)
	}
	add(func(o *api.Op) *int { return &o.Operator }, -1, 0, 1, 4, 12, 13, 1<<32+4, math.MinInt)
	add(func(o *api.Op) *int { return &o.Mode }, -1, 0, 1, 7, 12, 13, 1<<32+1, math.MinInt)
	for _, v := range []uint16{0, 1, 254, 255, 256, 65534, 65535} {
		l = append(l, func(o *api.Op) { o.Opacity = v })
	}
	return append(l, func(o *api.Op) { o.Isolated = !o.Isolated }, func(o *api.Op) { o.Knockout = !o.Knockout })
}

// opError is the definition of the errors of an operation of a script with images
// images and bits bits: those that apply, the first one first.
func opError(o api.Op, images, bits int, open []api.Op) api.Errno {
	outside := func(l ...int) bool {
		return slices.Min(l) < -1<<20 || slices.Max(l) > 1<<20
	}
	most := map[int]int{8: 255, 16: 65535}[bits]
	isDraw, isPush, isPop := o.Kind == 1, o.Kind == 2, o.Kind == 3
	field := isDraw && (o.Isolated || o.Knockout) || isPush && (o.Image != 0 || o.X != 0 || o.Y != 0) || o.Mask == 0 && (o.MaskX != 0 || o.MaskY != 0)
	if isPop {
		field = o != api.Op{Kind: 3}
	}
	strict := len(open) > 0 && (open[len(open)-1].Knockout || !open[len(open)-1].Isolated)
	for _, r := range []struct {
		applies bool
		e       api.Errno
	}{
		{!isDraw && !isPush && !isPop, api.ErrKind},
		{field, api.ErrField},
		{isPop && len(open) == 0, api.ErrBalance},
		{isPop, api.OK},
		{isDraw && (o.Image < 0 || o.Image > images-1), api.ErrIndex},
		{o.Mask < 0 || o.Mask > images, api.ErrIndex},
		{outside(o.X, o.Y, o.MaskX, o.MaskY), api.ErrOffset},
		{int(o.Opacity) > most, api.ErrOpacity},
		{o.Operator < 1 || o.Operator > 12, api.ErrOperator},
		{o.Mode < 1 || o.Mode > 12, api.ErrMode},
		{o.Operator != 4 && strict, api.ErrContext},
		{isPush && len(open) >= 64, api.ErrNesting},
	} {
		if r.applies {
			return r.e
		}
	}
	return api.OK
}

// contexts returns open groups, of each kind, and as many as are permitted, one
// less and more.
func contexts() [][]api.Op {
	iso, loose, knock, both := push(true, false), push(false, false), push(false, true), push(true, true)
	return [][]api.Op{
		nil, {iso}, {loose}, {knock}, {both}, {loose, iso}, {knock, iso}, {both, iso}, {iso, loose}, {iso, both},
		pushes(63), pushes(64), pushes(65), append(pushes(63), both), append(pushes(62), loose), append([]api.Op{loose}, pushes(63)...),
	}
}

// TestOp changes two and, at some places, three fields of an operation.
func TestOp(t *testing.T) {
	l, open := changes(), contexts()
	seen := map[api.Errno]int{}
	s := valid()
	check := func(o api.Op, bits, images int, open []api.Op) {
		s.Bits, s.Images, s.Ops[3] = bits, make([]api.Image, images), o
		want := opError(o, images, bits, open)
		seen[want]++
		if got := validate.Op(s, 3, open); got != want {
			t.Fatalf("P20.2: Op of %+v, %d images, %d bits, in %d groups: %d; want %d", o, images, bits, len(open), got, want)
		}
	}
	for b, base := range []api.Op{draw(), push(true, false), pop(), with(api.DstOut), {}} {
		for i, f := range l {
			for k, g := range l[:i+1] {
				o := base
				f(&o)
				g(&o)
				for _, c := range open {
					check(o, 8, 3, c)
				}
				check(o, 16, 3, open[1])
				check(o, 9, 1, open[2])
				check(o, 0, 0, nil)
				l[(i*7+k*13+b)%len(l)](&o)
				check(o, 8, 3, open[(i+k)%len(open)])
			}
		}
	}
	for _, e := range []api.Errno{api.OK, api.ErrKind, api.ErrField, api.ErrBalance, api.ErrIndex, api.ErrOffset, api.ErrOpacity, api.ErrOperator, api.ErrMode, api.ErrContext, api.ErrNesting} {
		if seen[e] < 20 {
			t.Errorf("the error %d was wanted only %d times", e, seen[e])
		}
	}
}

// TestOpFirst spoils any set of the things that Op checks.
func TestOpFirst(t *testing.T) {
	type rule struct {
		e api.Errno
		f change
	}
	rules := []rule{
		{api.ErrKind, func(o *api.Op) { o.Kind = 0 }},
		{api.ErrField, func(o *api.Op) { o.Image = 1 }},
		{api.ErrIndex, func(o *api.Op) { o.Mask = 4 }},
		{api.ErrOffset, func(o *api.Op) { o.MaskY = 1<<20 + 1 }},
		{api.ErrOpacity, func(o *api.Op) { o.Opacity = 256 }},
		{api.ErrOperator, func(o *api.Op) { o.Operator = 13 }},
		{api.ErrMode, func(o *api.Op) { o.Mode = 0 }},
		{api.ErrContext, func(o *api.Op) { o.Operator = api.Dst }},
	}
	for set := range 1 << len(rules) {
		for _, deep := range []bool{false, true} {
			o, open, want := push(true, false), []api.Op{push(false, false)}, api.OK
			o.Mask = 3
			if deep {
				open, want = append(pushes(64), push(true, true)), api.ErrNesting
			}
			for i, r := range slices.Backward(rules) {
				if set&(1<<i) != 0 {
					r.f(&o)
					want = r.e
				}
			}
			s := valid()
			s.Ops[0] = o
			if got := validate.Op(s, 0, open); got != want {
				t.Errorf("P20.2: Op of %+v in %d groups: %d; want %d", o, len(open), got, want)
			}
		}
	}
}

// TestOpNone checks indices that denote nothing (R7).
func TestOpNone(t *testing.T) {
	s := valid()
	for _, at := range append(far(), -1, 6, 7, 4096) {
		if got := validate.Op(s, at, nil); got != api.ErrNone {
			t.Errorf("P20.2: Op of operation %d of 6: %d; want ErrNone", at, got)
		}
		if got := validate.Op(api.Script{}, at, pushes(65)); got != api.ErrNone {
			t.Errorf("P20.2: Op of operation %d of an empty script: %d; want ErrNone", at, got)
		}
	}
	if got := validate.Op(api.Script{}, 0, nil); got != api.ErrNone {
		t.Errorf("P20.2: Op of operation 0 of an empty script: %d; want ErrNone", got)
	}
}

// TestOpAlone checks that Op looks at nothing but the operation, the number of the
// images, the depth and the groups it is given.
func TestOpAlone(t *testing.T) {
	s := api.Script{Bits: 16, Images: make([]api.Image, 70), Ops: make([]api.Op, 5000)}
	d := draw()
	d.Image, d.Mask, d.Opacity = 69, 70, 65535
	s.Ops[4999] = d
	// What stands in open is not checked: only its last element and its length matter.
	for _, open := range [][]api.Op{nil, {{Isolated: true}}, {{Kind: 9, Isolated: true, Mask: -1}}} {
		if got := validate.Op(s, 4999, open); got != api.OK {
			t.Errorf("P20.2: Op of an operation among others: %d; want OK", got)
		}
		s.Ops[4999].Operator = api.Xor
		if got := validate.Op(s, 4999, open); got != api.OK {
			t.Errorf("P20.2: Op of xor among others: %d; want OK", got)
		}
	}
	s.Bits = 0
	for _, r := range []struct {
		opacity uint16
		want    api.Errno
	}{{0, api.OK}, {1, api.ErrOpacity}, {65535, api.ErrOpacity}} {
		s.Ops[4999].Opacity = r.opacity
		if got := validate.Op(s, 4999, nil); got != r.want {
			t.Errorf("P20.2: Op with the opacity %d of a script without a depth: %d; want %d", r.opacity, got, r.want)
		}
	}
}

// TestOpNumbers checks every operator and mode, in every kind of group.
func TestOpNumbers(t *testing.T) {
	s := valid()
	for op := -20; op <= 20; op++ {
		for mode := -20; mode <= 20; mode++ {
			for _, base := range []api.Op{draw(), push(false, true)} {
				for _, open := range contexts() {
					base.Operator, base.Mode = op, mode
					s.Ops[1] = base
					want := opError(base, 3, 8, open)
					if got := validate.Op(s, 1, open); got != want {
						t.Fatalf("P20.2: Op of %+v in %d groups: %d; want %d", base, len(open), got, want)
					}
				}
			}
		}
	}
}

// openBefore returns the groups that are open before operation at of ops, each of
// which is correct so far: a Push is open if the operations between have never
// closed it, counted from there.
func openBefore(ops []api.Op, at int) []api.Op {
	var l []api.Op
	for i, o := range ops[:at] {
		if o.Kind != api.Push {
			continue
		}
		depth := 1
		for _, q := range ops[i+1 : at] {
			switch {
			case depth == 0:
			case q.Kind == api.Push:
				depth++
			case q.Kind == api.Pop:
				depth--
			}
		}
		if depth > 0 {
			l = append(l, o)
		}
	}
	return l
}

// opsError is the definition of what Ops returns for a script whose frame is valid.
func opsError(s api.Script) (api.Errno, int) {
	for i, o := range s.Ops {
		if e := opError(o, len(s.Images), s.Bits, openBefore(s.Ops, i)); e != api.OK {
			return e, i
		}
	}
	if len(openBefore(s.Ops, len(s.Ops))) > 0 {
		return api.ErrBalance, len(s.Ops)
	}
	return api.OK, 0
}

// checkOps checks Ops and Check on a script whose frame and images are valid.
func checkOps(t *testing.T, s api.Script) api.Errno {
	t.Helper()
	want, index := opsError(s)
	if got, at := validate.Ops(s); got != want || at != index {
		t.Errorf("P20.3: Ops of %d operations: %d, %d; want %d, %d", len(s.Ops), got, at, want, index)
	}
	if got, at := validate.Check(s); got != want || at != index {
		t.Errorf("P20.4: Check of %d operations: %d, %d; want %d, %d", len(s.Ops), got, at, want, index)
	}
	return want
}

// TestOps checks all sequences of up to five operations of these.
func TestOps(t *testing.T) {
	few := []api.Op{draw(), with(api.Xor), push(true, false), push(false, false), push(true, true), pop(), {Kind: 4}, {Kind: api.Draw, Opacity: 256}}
	few[3].Operator = api.SrcIn
	l := [][]api.Op{nil}
	valids := 0
	for n := 0; n <= 5; n++ {
		var longer [][]api.Op
		for _, ops := range l {
			s := valid()
			s.Ops = ops
			if checkOps(t, s) == api.OK {
				valids++
			}
			for _, o := range few {
				longer = append(longer, append(slices.Clone(ops), o))
			}
		}
		l = longer
	}
	if valids < 100 {
		t.Errorf("only %d sequences of the test are valid", valids)
	}
	if e := checkOps(t, valid()); e != api.OK {
		t.Errorf("P20.3: the valid script of the test has the error %d", e)
	}
}

// TestOpsNesting opens as many groups as are permitted, and more, at once and after
// others have been closed.
func TestOpsNesting(t *testing.T) {
	pops := func(n int) []api.Op { return slices.Repeat([]api.Op{pop()}, n) }
	for _, ops := range [][]api.Op{
		slices.Concat(pushes(64), pops(64)),
		slices.Concat(pushes(65), pops(65)),
		slices.Concat(pushes(64), pops(1), pushes(1), []api.Op{draw()}, pops(64)),
		slices.Concat(pushes(64), pops(1), pushes(2), pops(65)),
		slices.Concat(pushes(64), pops(64), pushes(64), pops(63)),
		slices.Concat(pushes(3), pops(4), pushes(1)),
		slices.Repeat([]api.Op{push(true, false), pop()}, 2048),
		slices.Repeat([]api.Op{draw()}, 4096),
		append(slices.Repeat([]api.Op{draw()}, 4095), push(true, true)),
		append(slices.Repeat([]api.Op{draw()}, 4095), pop()),
	} {
		s := valid()
		s.Ops = ops
		checkOps(t, s)
	}
}

// TestExamples checks the examples of the chapter.
func TestExamples(t *testing.T) {
	s := valid()
	s.Ops = []api.Op{pop()}
	if got, at := validate.Ops(s); got != api.ErrBalance || at != 0 {
		t.Errorf("P20.3: Ops of a Pop alone: %d, %d; want ErrBalance, 0", got, at)
	}
	s.Ops = []api.Op{push(false, false), with(api.Xor), pop()}
	if got, at := validate.Ops(s); got != api.ErrContext || at != 1 {
		t.Errorf("P20.3: Ops of xor in a group that is not isolated: %d, %d; want ErrContext, 1", got, at)
	}
	if got, at := validate.Check(api.Script{}); got != api.ErrBits || at != 0 {
		t.Errorf("P20.4: Check of the zero Script: %d, %d; want ErrBits, 0", got, at)
	}
}

// TestImages checks each kind of bad image, at each place, with no operation that
// refers to it.
func TestImages(t *testing.T) {
	thin, _ := image.Of(1, 2, []api.Pixel{{A: 5, F: 6}, {C: [3]uint16{6, 0, 0}, A: 5, F: 6}})
	short, _ := image.Of(2, 2, make([]api.Pixel, 4))
	short.Planes[4].S = short.Planes[4].S[:3]
	huge := image.Solid(1<<32+1, 1, api.Pixel{})
	bad := []struct {
		m    api.Image
		e    api.Errno
		wide api.Errno // with 16 bits
	}{
		{api.Image{}, api.ErrSize, api.ErrSize}, {huge, api.ErrSize, api.ErrSize}, {image.Solid(1<<12, 1<<12+1, api.Pixel{}), api.ErrSize, api.ErrSize},
		{api.Image{W: 1, H: 1}, api.ErrPlane, api.ErrPlane}, {short, api.ErrPlane, api.ErrPlane},
		{thin, api.ErrSample, api.ErrSample}, {image.Solid(1, 1, api.Pixel{A: 256, F: 256}), api.ErrSample, api.OK},
		{image.Solid(1, 1, api.Pixel{F: 65535}), api.ErrSample, api.OK}, {image.Solid(3, 3, api.Pixel{A: 9, F: 8}), api.ErrSample, api.ErrSample},
		{image.Solid(1<<12, 1<<12, api.Pixel{F: 255}), api.OK, api.OK},
	}
	for at := range 4 {
		for i, r := range bad {
			s := valid()
			s.Images = slices.Insert(s.Images, at, r.m)
			// These only count if the image is valid: Check looks at images first.
			s.Ops = []api.Op{draw(), pop()}
			later := slices.Clone(s.Images)
			later = append(later, api.Image{W: 1, H: 1})
			for bits, want := range map[int]api.Errno{8: r.e, 16: r.wide} {
				s.Bits, s.Images = bits, later[:4]
				wantAt := at
				if want == api.OK {
					want, wantAt = api.ErrBalance, 1
				}
				if got, n := validate.Check(s); got != want || n != wantAt {
					t.Errorf("P20.4: Check with the image %d at %d, %d bits: %d, %d; want %d, %d", i, at, bits, got, n, want, wantAt)
				}
				if got, n := validate.Ops(s); got != api.ErrBalance || n != 1 {
					t.Errorf("P20.3: Ops looks at the image %d: %d, %d", i, got, n)
				}
				if s.Images = later; want == api.ErrBalance {
					want, wantAt = api.ErrPlane, 4
				}
				if got, n := validate.Check(s); got != want || n != wantAt {
					t.Errorf("P20.4: Check with the images %d at %d and 4, %d bits: %d, %d; want %d, %d", i, at, bits, got, n, want, wantAt)
				}
				if got := validate.Frame(s); got != api.OK {
					t.Errorf("P20.1: Frame looks at the image %d: %d", i, got)
				}
			}
		}
	}
}

// TestWide checks a valid script with 16 bits, and one without images and
// operations.
func TestWide(t *testing.T) {
	s := valid()
	s.Bits, s.Ops[0].Opacity, s.Images[1].Color = 16, 65535, api.Pixel{A: 65535, F: 65535}
	if e := checkOps(t, s); e != api.OK {
		t.Errorf("P20.4: a valid script with 16 bits has the error %d", e)
	}
	s.Images, s.Ops = nil, nil
	if e := checkOps(t, s); e != api.OK {
		t.Errorf("P20.4: a script without images and operations has the error %d", e)
	}
	// A group needs no image.
	s.Ops = []api.Op{push(true, true), pop()}
	if e := checkOps(t, s); e != api.OK {
		t.Errorf("P20.4: an empty group in a script without images has the error %d", e)
	}
}

// TestArguments checks that the arguments are not changed, and that the room after
// their elements is neither read nor written (R3).
func TestArguments(t *testing.T) {
	s := valid()
	s.Ops = append(s.Ops, api.Op{Kind: 77}, pop())[:6]
	s.Order = append(s.Order, 77, 78)[:6]
	s.Images = append(s.Images, api.Image{W: -7}, api.Image{W: -8})[:3]
	open := append(pushes(63), push(false, false), push(true, true))[:63]
	whole := func() api.Script {
		all := s
		all.Ops, all.Order, all.Images = s.Ops[:cap(s.Ops)], s.Order[:cap(s.Order)], s.Images[:cap(s.Images)]
		return all
	}
	before, openBefore := copied(whole()), slices.Clone(open[:cap(open)])
	if e := checkOps(t, s); e != api.OK {
		t.Errorf("R3: a valid script with room after its elements has the error %d", e)
	}
	frames(t, s, api.OK)
	s.Ops[0].Operator, before.Ops[0].Operator = api.Src, api.Src
	if got := validate.Op(s, 0, open); got != api.OK {
		t.Errorf("R3: Op with room after the open groups: %d; want OK", got)
	}
	if got := validate.Op(s, 6, open); got != api.ErrNone {
		t.Errorf("R3: Op of an operation after the last one: %d; want ErrNone", got)
	}
	s.Ops[0].Image, before.Ops[0].Image = 3, 3
	if got := validate.Op(s, 0, open); got != api.ErrIndex {
		t.Errorf("R3: Op with an image after the last one: %d; want ErrIndex", got)
	}
	if !same(whole(), before) || !slices.Equal(open[:cap(open)], openBefore) {
		t.Error("R3: an argument was changed")
	}
}
