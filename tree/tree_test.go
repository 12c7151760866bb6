package tree_test

import (
	"math"
	"reflect"
	"slices"
	"testing"

	"compositor/api"
	"compositor/tree"
)

// far returns numbers that are no kind of an operation and no index of a node; the
// low bits of some are.
func far() []int {
	return []int{256, 257, 258, 259, 1 << 16, 1<<16 + 1, 1<<16 + 2, 1 << 31, -1 << 31, 1<<32 - 1, 1 << 32, 1<<32 + 1, 1<<32 + 2, 1<<32 + 3, -1<<32 + 1, 1 << 62, -1 << 62, math.MaxInt, math.MinInt, math.MinInt + 1}
}

// op returns an operation of a kind whose other fields are all set, differently
// for each n. No script would be valid with it.
func op(kind, n int) api.Op {
	return api.Op{
		Kind: kind, Image: -n - 1, X: n + 1, Y: n + 2, Mask: n + 3, MaskX: n + 4, MaskY: n + 5, Opacity: uint16(n + 6),
		Operator: n + 7, Mode: n + 8, Isolated: n%2 == 0, Knockout: n%3 == 0,
	}
}

// pop is the Pop that Emit returns.
var pop = api.Op{Kind: api.Pop}

// lists calls do with all lists of up to n of the numbers.
func lists(numbers []int, n int, do func([]int)) {
	var extend func(l []int)
	extend = func(l []int) {
		do(slices.Clone(l))
		if len(l) == n {
			return
		}
		for _, v := range numbers {
			extend(append(slices.Clone(l), v))
		}
	}
	extend(nil)
}

// ofKinds returns operations of these kinds.
func ofKinds(kinds []int) []api.Op {
	var ops []api.Op
	for i, k := range kinds {
		ops = append(ops, op(k, i))
	}
	return ops
}

// level returns how many groups are open behind these operations, where a Pop
// always closes one.
func level(ops []api.Op) int {
	n := 0
	for _, o := range ops {
		switch o.Kind {
		case api.Push:
			n++
		case api.Pop:
			n--
		}
	}
	return n
}

// failure is the definition of the error of Build and Ends.
func failure(ops []api.Op) api.Errno {
	for i, o := range ops {
		if o.Kind != api.Draw && o.Kind != api.Push && o.Kind != api.Pop {
			return api.ErrKind
		}
		if level(ops[:i+1]) < 0 {
			return api.ErrBalance
		}
	}
	if level(ops) != 0 {
		return api.ErrBalance
	}
	return api.OK
}

// end is the definition of Ends for operation i of a balanced list: behind what
// ends it, the groups are open that were open before it.
func end(ops []api.Op, i int) int {
	if ops[i].Kind != api.Push {
		return i
	}
	for j := i + 1; ; j++ {
		if level(ops[i:j+1]) == 0 {
			return j
		}
	}
}

// built is the definition of Build for a balanced list.
func built(ops []api.Op) api.Tree {
	var t api.Tree
	var at []int // the operation of each node
	for i, o := range ops {
		if o.Kind == api.Pop {
			continue
		}
		n := len(t.Nodes)
		t.Nodes, at = append(t.Nodes, api.Node{Op: o}), append(at, i)
		parent := -1
		for m, j := range at[:n] {
			if end(ops, j) > i {
				parent = m
			}
		}
		if parent < 0 {
			t.Roots = append(t.Roots, n)
		} else {
			t.Nodes[parent].Kids = append(t.Nodes[parent].Kids, n)
		}
	}
	return t
}

// same reports whether two trees are the same.
func same(t, u api.Tree) bool {
	return slices.Equal(t.Roots, u.Roots) && slices.EqualFunc(t.Nodes, u.Nodes, func(m, n api.Node) bool {
		return m.Op == n.Op && slices.Equal(m.Kids, n.Kids)
	})
}

// plain returns the operations with Pops that have no field but Kind.
func plain(ops []api.Op) []api.Op {
	ops = slices.Clone(ops)
	for i := range ops {
		if ops[i].Kind == api.Pop {
			ops[i] = pop
		}
	}
	return ops
}

// checkOps holds Build and Ends against their definitions, and goes the way back.
func checkOps(t *testing.T, ops []api.Op) {
	t.Helper()
	want := failure(ops)
	got, e := tree.Build(ops)
	ends, f := tree.Ends(ops)
	if e != want {
		t.Fatalf("P21.1: Build of %+v: error %d; want %d", ops, e, want)
	}
	if f != want {
		t.Fatalf("P21.3: Ends of %+v: error %d; want %d", ops, f, want)
	}
	if want != api.OK {
		if len(got.Nodes)+len(got.Roots)+len(ends) != 0 {
			t.Fatalf("P21.1, P21.3: beside the error %d: %+v, %v", e, got, ends)
		}
		return
	}
	if !same(got, built(ops)) {
		t.Fatalf("P21.1: Build of %+v: %+v; want %+v", ops, got, built(ops))
	}
	if len(ends) != len(ops) {
		t.Fatalf("P21.3: Ends of %d operations: %v", len(ops), ends)
	}
	for i := range ops {
		if ends[i] != end(ops, i) {
			t.Fatalf("P21.3: Ends of %+v: %v; want %d at %d", ops, ends, end(ops, i), i)
		}
	}
	back, e := tree.Emit(got)
	if e != api.OK || !slices.Equal(back, plain(ops)) {
		t.Fatalf("P21.2: Emit of Build of %+v: %+v, error %d", ops, back, e)
	}
	checkTree(t, got)
}

func TestAllLists(t *testing.T) {
	n := 0
	lists([]int{api.Draw, api.Push, api.Pop, 0}, 7, func(kinds []int) {
		checkOps(t, ofKinds(kinds))
		n++
	})
	if want := (1<<16 - 1) / 3; n != want {
		t.Errorf("%d lists; want %d", n, want)
	}
	// Without other kinds, longer lists are possible.
	lists([]int{api.Draw, api.Push, api.Pop}, 10, func(kinds []int) {
		if len(kinds) > 7 && failure(ofKinds(kinds)) == api.OK {
			checkOps(t, ofKinds(kinds))
		}
	})
}

func TestKinds(t *testing.T) {
	for _, k := range append(far(), -3, -2, -1, 0, 4, 5, 6) {
		for at := range 5 {
			ops := []api.Op{op(api.Draw, 0), op(api.Push, 1), op(api.Draw, 2), pop, op(api.Draw, 3)}
			ops[at].Kind = k
			if _, e := tree.Build(ops); e != api.ErrKind {
				t.Errorf("P21.1: Build with the kind %d at %d: error %d", k, at, e)
			}
			if _, e := tree.Ends(ops); e != api.ErrKind {
				t.Errorf("P21.3: Ends with the kind %d at %d: error %d", k, at, e)
			}
		}
		checkOps(t, []api.Op{pop, {Kind: k}})
		for _, u := range []api.Tree{
			{Nodes: []api.Node{{Op: op(k, 0)}}, Roots: []int{0}},
			{Nodes: []api.Node{{Op: op(api.Push, 1), Kids: []int{1}}, {Op: op(k, 0)}}, Roots: []int{0}},
			{Nodes: []api.Node{{Op: op(k, 1), Kids: []int{1}}, {Op: op(api.Draw, 0)}}, Roots: []int{0}},
		} {
			checkTree(t, u)
		}
	}
}

func TestExamples(t *testing.T) {
	ops := []api.Op{op(api.Draw, 0), op(api.Push, 1), op(api.Draw, 2), pop}
	got, e := tree.Build(ops)
	want := api.Tree{Nodes: []api.Node{{Op: ops[0]}, {Op: ops[1], Kids: []int{2}}, {Op: ops[2]}}, Roots: []int{0, 1}}
	if e != api.OK || !same(got, want) {
		t.Errorf("P21.1: Build: %+v, error %d", got, e)
	}
	if p := tree.Parents(got); !slices.Equal(p, []int{-1, -1, 1}) || tree.Depth(got) != 2 {
		t.Errorf("P21.2: Parents: %v; Depth: %d", p, tree.Depth(got))
	}
	if ends, e := tree.Ends(ops); e != api.OK || !slices.Equal(ends, []int{0, 3, 2, 3}) {
		t.Errorf("P21.3: Ends: %v, error %d", ends, e)
	}
	// The first operation decides, and the end of the list comes last.
	for _, r := range []struct {
		kinds []int
		want  api.Errno
	}{
		{[]int{api.Pop}, api.ErrBalance}, {[]int{api.Push}, api.ErrBalance}, {[]int{0}, api.ErrKind},
		{[]int{api.Pop, 0}, api.ErrBalance}, {[]int{0, api.Pop}, api.ErrKind}, {[]int{api.Push, 0}, api.ErrKind},
		{[]int{api.Push, api.Pop, api.Pop, 4}, api.ErrBalance}, {[]int{api.Push, 4, api.Pop, api.Pop}, api.ErrKind},
		{[]int{api.Pop, api.Push}, api.ErrBalance}, {[]int{api.Push, api.Draw, api.Push, api.Pop}, api.ErrBalance},
	} {
		if _, e := tree.Build(ofKinds(r.kinds)); e != r.want {
			t.Errorf("P21.1: Build of the kinds %v: error %d; want %d", r.kinds, e, r.want)
		}
		if _, e := tree.Ends(ofKinds(r.kinds)); e != r.want {
			t.Errorf("P21.3: Ends of the kinds %v: error %d; want %d", r.kinds, e, r.want)
		}
	}
}

// within returns for each node the nodes that are inside it, at any depth, for a
// tree whose kids are nodes.
func within(u api.Tree) [][]bool {
	n := len(u.Nodes)
	in := make([][]bool, n)
	for i := range in {
		in[i] = make([]bool, n)
		for _, k := range u.Nodes[i].Kids {
			in[i][k] = true
		}
	}
	for m := range n {
		for i := range n {
			for k := range n {
				in[i][k] = in[i][k] || in[i][m] && in[m][k]
			}
		}
	}
	return in
}

// valid is the definition of Valid.
func valid(u api.Tree) bool {
	count := make([]int, len(u.Nodes))
	kids := [][]int{u.Roots}
	for _, n := range u.Nodes {
		if n.Op.Kind != api.Draw && n.Op.Kind != api.Push || n.Op.Kind == api.Draw && len(n.Kids) > 0 {
			return false
		}
		kids = append(kids, n.Kids)
	}
	for _, i := range slices.Concat(kids...) {
		if i < 0 || i >= len(count) {
			return false
		}
		count[i]++
	}
	for _, c := range count {
		if c != 1 {
			return false
		}
	}
	for i, in := range within(u) {
		if in[i] {
			return false
		}
	}
	return true
}

// emitted is the definition of Emit for a valid tree, with a stack instead of a
// recursion; -1 stands for a Pop.
func emitted(u api.Tree) []api.Op {
	var ops []api.Op
	stack := slices.Clone(u.Roots)
	slices.Reverse(stack)
	for len(stack) > 0 {
		i := stack[len(stack)-1]
		stack = stack[:len(stack)-1]
		if i < 0 {
			ops = append(ops, pop)
			continue
		}
		n := u.Nodes[i]
		ops = append(ops, n.Op)
		if n.Op.Kind == api.Push {
			kids := slices.Clone(n.Kids)
			slices.Reverse(kids)
			stack = append(append(stack, -1), kids...)
		}
	}
	return ops
}

// parents is the definition of Parents for a valid tree.
func parents(u api.Tree) []int {
	l := make([]int, len(u.Nodes))
	for i := range l {
		l[i] = slices.IndexFunc(u.Nodes, func(n api.Node) bool { return slices.Contains(n.Kids, i) })
	}
	return l
}

// depth is the definition of Depth for a valid tree: on the way to a node are it
// and the nodes that it is inside.
func depth(u api.Tree) int {
	d := 0
	in := within(u)
	for i := range u.Nodes {
		n := 1
		for m := range u.Nodes {
			if in[m][i] {
				n++
			}
		}
		d = max(d, n)
	}
	return d
}

// checkTree holds Valid, Emit, Parents and Depth against their definitions, and
// reports whether the tree is valid.
func checkTree(t *testing.T, u api.Tree) bool {
	t.Helper()
	ok := valid(u)
	if tree.Valid(u) != ok {
		t.Fatalf("P21.2: Valid of %+v: %v", u, !ok)
	}
	ops, e := tree.Emit(u)
	if !ok {
		if e != api.ErrArg || len(ops) != 0 {
			t.Fatalf("P21.2: Emit of %+v, which is not valid: %v, error %d", u, ops, e)
		}
		if p := tree.Parents(u); len(p) != 0 || tree.Depth(u) != 0 {
			t.Fatalf("P21.2: Parents and Depth of %+v, which is not valid: %v, %d", u, p, tree.Depth(u))
		}
		return false
	}
	if e != api.OK || !slices.Equal(ops, emitted(u)) {
		t.Fatalf("P21.2: Emit of %+v: %+v, error %d; want %+v", u, ops, e, emitted(u))
	}
	if p := tree.Parents(u); !slices.Equal(p, parents(u)) {
		t.Fatalf("P21.2: Parents of %+v: %v; want %v", u, p, parents(u))
	}
	if d := tree.Depth(u); d != depth(u) {
		t.Fatalf("P21.2: Depth of %+v: %d; want %d", u, d, depth(u))
	}
	return true
}

// all returns all lists of up to n of the numbers.
func all(numbers []int, n int) [][]int {
	var l [][]int
	lists(numbers, n, func(o []int) { l = append(l, o) })
	return l
}

// nodes returns nodes of these kinds.
func nodes(kinds ...int) []api.Node {
	l := make([]api.Node, len(kinds))
	for i, k := range kinds {
		l[i].Op = op(k, i)
	}
	return l
}

func TestSmallTrees(t *testing.T) {
	found := 0
	check := func(u api.Tree) {
		if checkTree(t, u) {
			found++
		}
	}
	for _, roots := range all([]int{-1, 0, 1}, 3) {
		check(api.Tree{Roots: roots})
		for _, kids := range all([]int{-1, 0, 1}, 3) {
			for kind := -1; kind <= 4; kind++ {
				u := api.Tree{Nodes: nodes(kind), Roots: roots}
				u.Nodes[0].Kids = kids
				check(u)
			}
		}
	}
	two := all([]int{-1, 0, 1, 2}, 2)
	for _, roots := range two {
		for _, a := range two {
			for _, b := range two {
				for k := range 16 {
					u := api.Tree{Nodes: nodes(k%4, k/4), Roots: roots}
					u.Nodes[0].Kids, u.Nodes[1].Kids = a, b
					check(u)
				}
			}
		}
	}
	three := all([]int{0, 1, 2}, 2)
	for _, roots := range all([]int{0, 1, 2}, 3) {
		for _, a := range three {
			for _, b := range three {
				for _, c := range three {
					u := api.Tree{Nodes: nodes(api.Push, api.Push, api.Push), Roots: roots}
					u.Nodes[0].Kids, u.Nodes[1].Kids, u.Nodes[2].Kids = a, b, c
					check(u)
				}
			}
		}
	}
	// Without nodes 1; with one 2; with two in a row 8, one in the other 2 * 2;
	// with three groups in a row 6, two in a row of which one has the third 12, and
	// one with the others 3 * 2 (beside each other) and 6 (inside each other).
	if want := 1 + 2 + 8 + 4 + 6 + 12 + 6 + 6; found != want {
		t.Errorf("%d trees are valid; want %d", found, want)
	}
}

// TestPlaces has all ways to put each of up to five nodes into one place.
func TestPlaces(t *testing.T) {
	found := 0
	for n := 1; n <= 5; n++ {
		ways := 1
		for range n {
			ways *= n + 1
		}
		for w := range ways {
			u := api.Tree{Nodes: nodes(slices.Repeat([]int{api.Push}, n)...)}
			for i, rest := 0, w; i < n; i, rest = i+1, rest/(n+1) {
				// Descending order, so that the order of the kids is not that of the numbers.
				if p := rest % (n + 1); p < n {
					u.Nodes[p].Kids = append([]int{i}, u.Nodes[p].Kids...)
				} else {
					u.Roots = append([]int{i}, u.Roots...)
				}
			}
			for i := range u.Nodes {
				if len(u.Nodes[i].Kids) == 0 && (i+w)%2 == 0 {
					u.Nodes[i].Op.Kind = api.Draw
				}
			}
			if checkTree(t, u) {
				found++
			}
		}
	}
	// There are (n + 1)^(n - 1) forests with n nodes.
	if want := 1 + 3 + 16 + 125 + 1296; found != want {
		t.Errorf("%d places are those of a forest; want %d", found, want)
	}
}

func TestFarIndices(t *testing.T) {
	for _, v := range append(far(), -2, -1, 3, 4) {
		for _, u := range []api.Tree{
			{Roots: []int{v}},
			{Nodes: nodes(api.Draw, api.Push, api.Draw), Roots: []int{0, 1, 2, v}},
			{Nodes: nodes(api.Draw, api.Push, api.Draw), Roots: []int{v, 0, 1, 2}},
			{Nodes: []api.Node{{Op: op(api.Push, 1), Kids: []int{v, 1, 2}}, {Op: op(api.Draw, 2)}, {Op: op(api.Draw, 3)}}, Roots: []int{0}},
			{Nodes: []api.Node{{Op: op(api.Push, 1), Kids: []int{1, 2, v}}, {Op: op(api.Draw, 2)}, {Op: op(api.Draw, 3)}}, Roots: []int{0}},
		} {
			if checkTree(t, u) {
				t.Errorf("P21.2: a tree of %d nodes with the index %d is valid", len(u.Nodes), v)
			}
		}
	}
}

func TestCircles(t *testing.T) {
	for n := 1; n <= 40; n++ {
		u := api.Tree{Nodes: nodes(slices.Repeat([]int{api.Push}, n+2)...), Roots: []int{n + 1}}
		for i := range n {
			u.Nodes[i].Kids = []int{(i + 1) % n}
		}
		u.Nodes[n+1].Kids = []int{n}
		if checkTree(t, u) {
			t.Errorf("P21.2: a circle of %d nodes beside a tree is valid", n)
		}
		u.Roots = append(u.Roots, 0)
		if checkTree(t, u) {
			t.Errorf("P21.2: a circle of %d nodes, one of which is a root, is valid", n)
		}
		u.Nodes[n-1].Kids = nil
		if !checkTree(t, u) {
			t.Errorf("P21.2: a chain of %d nodes is not valid", n)
		}
	}
}

func TestDeep(t *testing.T) {
	const n = 1 << 16
	var u api.Tree
	for i := range n {
		u.Nodes = append(u.Nodes, api.Node{Op: op(api.Push, i)})
		if i > 0 {
			u.Nodes[i].Kids = []int{i - 1}
		}
	}
	u.Roots = []int{n - 1}
	ops, e := tree.Emit(u)
	if e != api.OK || len(ops) != 2*n || !slices.Equal(ops, emitted(u)) || tree.Depth(u) != n {
		t.Fatalf("P21.2: Emit of %d groups: %d operations, error %d; Depth: %d", n, len(ops), e, tree.Depth(u))
	}
	for i, p := range tree.Parents(u) {
		if i == n-1 && p != -1 || i < n-1 && p != i+1 {
			t.Fatalf("P21.2: Parents of %d groups: %d at %d", n, p, i)
		}
	}
	v, e := tree.Build(ops)
	if e != api.OK || len(v.Nodes) != n || !slices.Equal(v.Roots, []int{0}) || tree.Depth(v) != n {
		t.Fatalf("P21.1: Build of %d groups: %d nodes, error %d", n, len(v.Nodes), e)
	}
	ends, e := tree.Ends(ops)
	if e != api.OK || len(ends) != 2*n {
		t.Fatalf("P21.3: Ends of %d groups: %d, error %d", n, len(ends), e)
	}
	for i, at := range ends {
		if want := max(i, 2*n-1-i); at != want {
			t.Fatalf("P21.3: Ends of %d groups: %d at %d; want %d", n, at, i, want)
		}
	}
	u.Roots = nil
	u.Nodes[0].Kids = []int{n - 1}
	if tree.Valid(u) {
		t.Errorf("P21.2: a circle of %d groups is valid", n)
	}
}

func TestMany(t *testing.T) {
	const n = 1 << 17
	ops := slices.Repeat([]api.Op{op(api.Draw, 1)}, n)
	ops = append(append([]api.Op{op(api.Push, 2)}, ops...), pop)
	u, e := tree.Build(ops)
	if e != api.OK || len(u.Nodes) != n+1 || len(u.Nodes[0].Kids) != n || tree.Depth(u) != 2 {
		t.Fatalf("P21.1: Build of %d draws: %d nodes, error %d", n, len(u.Nodes), e)
	}
	if back, e := tree.Emit(u); e != api.OK || !slices.Equal(back, ops) {
		t.Errorf("P21.2: Emit of %d draws: %d operations, error %d", n, len(back), e)
	}
}

// spare returns l with elements between its length and its capacity, which must
// neither be read nor written.
func spare[T any](l []T, v T) []T {
	return append(slices.Clone(l), v, v, v)[:len(l)]
}

// copied returns a copy of u that shares no memory with it.
func copied(u api.Tree) api.Tree {
	u.Nodes, u.Roots = slices.Clone(u.Nodes), slices.Clone(u.Roots)
	for i := range u.Nodes {
		u.Nodes[i].Kids = slices.Clone(u.Nodes[i].Kids)
	}
	return u
}

// bushy returns operations with groups of several kids.
func bushy() []api.Op {
	return plain(ofKinds([]int{api.Push, api.Draw, api.Push, api.Draw, api.Draw, api.Pop, api.Push, api.Pop, api.Draw, api.Pop, api.Draw, api.Push, api.Draw, api.Pop}))
}

func TestOpsAreKept(t *testing.T) {
	full := spare(bushy(), op(api.Pop, 99))
	before := slices.Clone(full[:cap(full)])
	u, _ := tree.Build(full)
	ends, _ := tree.Ends(full)
	if !slices.Equal(full[:cap(full)], before) {
		t.Fatal("P21.1, P21.3: Build or Ends has changed its operations (R3)")
	}
	want, l := copied(u), slices.Clone(ends)
	for i := range full[:cap(full)] {
		full[:cap(full)][i] = api.Op{}
	}
	if !same(u, want) || !slices.Equal(ends, l) {
		t.Error("P21.1, P21.3: the results share memory with the operations (R3)")
	}
	again, _ := tree.Build(bushy())
	for i := range u.Nodes {
		u.Nodes[i].Op, u.Nodes[i].Kids = api.Op{}, append(u.Nodes[i].Kids, -7)
	}
	u.Roots = append(u.Roots, -8)
	for i := range u.Nodes {
		if k := u.Nodes[i].Kids; k[len(k)-1] != -7 || !slices.Equal(k[:len(k)-1], want.Nodes[i].Kids) {
			t.Errorf("P21.1: the kids of node %d share memory with another list (R3): %v", i, k)
		}
	}
	if !slices.Equal(u.Roots[:len(u.Roots)-1], want.Roots) || !same(again, want) {
		t.Error("P21.1: a tree shares memory with another list or tree (R3)")
	}
}

func TestTreeIsKept(t *testing.T) {
	u, _ := tree.Build(bushy())
	u.Roots, u.Nodes = spare(u.Roots, 0), spare(u.Nodes, api.Node{Op: op(api.Draw, 1), Kids: []int{0}})
	for i := range u.Nodes {
		u.Nodes[i].Kids = spare(u.Nodes[i].Kids, 1)
	}
	whole := func() any {
		l := []any{slices.Clone(u.Roots[:cap(u.Roots)]), slices.Clone(u.Nodes[:cap(u.Nodes)])}
		for _, n := range u.Nodes {
			l = append(l, slices.Clone(n.Kids[:cap(n.Kids)]))
		}
		return l
	}
	before := whole()
	if !checkTree(t, u) {
		t.Error("P21.2: a tree with spare capacity is not valid (R3)")
	}
	if !reflect.DeepEqual(whole(), before) {
		t.Error("P21.2: the tree has been changed (R3)")
	}
	ops, _ := tree.Emit(u)
	p := tree.Parents(u)
	for i := range ops {
		ops[i] = api.Op{Kind: 9}
	}
	for i := range p {
		p[i] = 99
	}
	if !checkTree(t, u) || !reflect.DeepEqual(whole(), before) {
		t.Error("P21.2: the results share memory with the tree (R3)")
	}
}

func TestEmptySlices(t *testing.T) {
	for _, ops := range [][]api.Op{nil, {}} {
		checkOps(t, ops)
	}
	for _, u := range []api.Tree{
		{}, {Nodes: []api.Node{}, Roots: []int{}},
		{Nodes: []api.Node{{Op: op(api.Draw, 0), Kids: []int{}}, {Op: op(api.Push, 1), Kids: []int{}}}, Roots: []int{1, 0}},
	} {
		if !checkTree(t, u) {
			t.Errorf("P21.2: %+v is not valid", u)
		}
	}
}
