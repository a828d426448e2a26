package tree_test

import (
	"math"
	"slices"
	"testing"

	"stopgate/api"
	"stopgate/tree"
)

// of makes a tree of such parents.
func of(parents ...int) []tree.Node {
	l := []tree.Node{}
	for _, p := range parents {
		l = append(l, tree.Node{Parent: p, Cap: 7})
	}
	return l
}

// lists goes through all lists of so many nodes, each of them one of those given.
func lists(length int, nodes []tree.Node, do func(l []tree.Node)) {
	l := make([]tree.Node, length)
	var fill func(i int)
	fill = func(i int) {
		if i == length {
			do(l)
			return
		}
		for _, n := range nodes {
			l[i] = n
			fill(i + 1)
		}
	}
	fill(0)
}

// up tells who is met above n, the nearest first, in a tree of places that there are: as many as the tree has
// nodes, and one more, where there is no end.
func up(l []tree.Node, n int) []int {
	met := []int{}
	for at := l[n].Parent; at != -1 && len(met) <= len(l); at = l[at].Parent {
		met = append(met, at)
	}
	return met
}

// check works the chapter's words out one behind the other.
func check(l []tree.Node) (api.Code, int) {
	switch {
	case len(l) > 32:
		return api.Full, 0
	case len(l) == 0:
		return api.Malformed, 0
	}
	for i, n := range l {
		if n.Parent < -1 || n.Parent >= len(l) {
			return api.Node, i
		}
		if n.Cap < 0 || n.Cap > 1<<62 {
			return api.Malformed, i
		}
	}
	for i := range l {
		met := up(l, i)
		if slices.Contains(met, i) || 1+len(met) > 3 {
			return api.State, i
		}
	}
	return api.OK, -1
}

func hold(t *testing.T, l []tree.Node) {
	t.Helper()
	want, at := check(l)
	if c, n := tree.Check(l); c != want || n != at {
		t.Errorf("Check of %v: %v, %d; want %v, %d", l, c.Word(), n, want.Word(), at)
	}
	if want == api.OK {
		holdPaths(t, l)
	}
}

// holdPaths holds Path and Level of a tree that is right, of nodes that there are and of others.
func holdPaths(t *testing.T, l []tree.Node) {
	t.Helper()
	for n := range l {
		want := append([]int{n}, up(l, n)...)
		if p := tree.Path(l, n); !slices.Equal(p, want) {
			t.Errorf("Path of %d in %v: %v; want %v", n, l, p, want)
		}
		if k := tree.Level(l, n); k != len(want)-1 {
			t.Errorf("Level of %d in %v: %d; want %d", n, l, k, len(want)-1)
		}
	}
	for _, n := range []int{-1, -2, len(l), len(l) + 1, math.MinInt, math.MaxInt} {
		if p := tree.Path(l, n); len(p) != 0 {
			t.Errorf("Path of %d in %v: %v", n, l, p)
		}
		if k := tree.Level(l, n); k != -1 {
			t.Errorf("Level of %d in %v: %d", n, l, k)
		}
	}
}

// P3.1, by what the document writes out, and its edges.
func TestCheckExamples(t *testing.T) {
	chain := func(length int) []tree.Node {
		l := of(-1)
		for i := 1; i < length; i++ {
			l = append(l, tree.Node{Parent: i - 1})
		}
		return l
	}
	ring := func(length int) []tree.Node {
		l := chain(length)
		l[0].Parent = length - 1
		return l
	}
	flat := func(length int) []tree.Node { return of(slices.Repeat([]int{-1}, length)...) }
	wide := func(length int) []tree.Node { return of(append([]int{-1}, make([]int, length-1)...)...) }
	for i, c := range []struct {
		l    []tree.Node
		want api.Code
		at   int
	}{
		{nil, api.Malformed, 0},
		{[]tree.Node{}, api.Malformed, 0},
		{of(-1), api.OK, -1},
		{of(-1, 0, 1), api.OK, -1},
		{of(1, 2, -1), api.OK, -1},
		{of(-1, 0, 0, 1, 1, 2, -1, 6), api.OK, -1},
		{flat(32), api.OK, -1},
		{wide(32), api.OK, -1},
		{flat(33), api.Full, 0},
		{wide(33), api.Full, 0},
		{of(slices.Repeat([]int{99}, 33)...), api.Full, 0},
		{flat(1000), api.Full, 0},
		{of(1, 0), api.State, 0},
		{of(0), api.State, 0},
		{of(-1, 1), api.State, 1},
		{of(-1, 0, 3, 4, 2), api.State, 2},
		{of(-1, 2, 2), api.State, 1}, // it doesn't hang on itself, but its Path has no end
		{of(1, 2, 3, 2), api.State, 0},
		{of(-1, 0, 1, 2), api.State, 3},
		{of(1, 2, 3, -1), api.State, 0},
		{of(-1, 0, 1, 2, 2, 4), api.State, 3},
		{chain(3), api.OK, -1},
		{chain(4), api.State, 3},
		{chain(32), api.State, 3},
		{ring(2), api.State, 0},
		{ring(3), api.State, 0},
		{ring(32), api.State, 0},
		{append(flat(29), tree.Node{Parent: 31}, tree.Node{Parent: 29}, tree.Node{Parent: 30}), api.State, 29},
		{of(-2), api.Node, 0},
		{of(1), api.Node, 0},
		{of(-1, 2), api.Node, 1},
		{of(-1, -2), api.Node, 1},
		{of(math.MinInt), api.Node, 0},
		{of(-1, math.MaxInt), api.Node, 1},
		{of(0, 1<<32), api.Node, 1}, // ahead of State at a node ahead
		{[]tree.Node{{Parent: -1, Cap: 0}}, api.OK, -1},
		{[]tree.Node{{Parent: -1, Cap: api.MaxCap}}, api.OK, -1},
		{[]tree.Node{{Parent: -1, Cap: api.MaxCap + 1}}, api.Malformed, 0},
		{[]tree.Node{{Parent: -1, Cap: math.MaxInt64}}, api.Malformed, 0},
		{[]tree.Node{{Parent: -1, Cap: -1}}, api.Malformed, 0},
		{[]tree.Node{{Parent: -1, Cap: math.MinInt64}}, api.Malformed, 0},
		{[]tree.Node{{Parent: 5, Cap: -1}}, api.Node, 0},
		{[]tree.Node{{Parent: -1, Cap: -1}, {Parent: 5}}, api.Malformed, 0},
		{[]tree.Node{{Parent: 5}, {Parent: -1, Cap: -1}}, api.Node, 0},
		{[]tree.Node{{Parent: 0}, {Parent: -1, Cap: -1}}, api.Malformed, 1},
	} {
		if k, n := tree.Check(c.l); k != c.want || n != c.at {
			t.Errorf("%d: %v, %d; want %v, %d", i, k.Word(), n, c.want.Word(), c.at)
		}
		if k, n := check(c.l); k != c.want || n != c.at {
			t.Errorf("%d: the test itself works out %v, %d", i, k.Word(), n)
		}
	}
}

// P3.1, by what the document writes out.
func TestPathExamples(t *testing.T) {
	l := of(-1, 0, 1, 0)
	for _, c := range []struct {
		n     int
		path  []int
		level int
	}{
		{0, []int{0}, 0}, {1, []int{1, 0}, 1}, {2, []int{2, 1, 0}, 2}, {3, []int{3, 0}, 1},
		{-1, nil, -1}, {4, nil, -1}, {math.MinInt, nil, -1}, {math.MaxInt, nil, -1},
	} {
		if p := tree.Path(l, c.n); !slices.Equal(p, c.path) {
			t.Errorf("Path of %d: %v", c.n, p)
		}
		if k := tree.Level(l, c.n); k != c.level {
			t.Errorf("Level of %d: %d", c.n, k)
		}
	}
	for _, none := range [][]tree.Node{nil, {}} {
		if len(tree.Path(none, 0)) != 0 || tree.Level(none, 0) != -1 {
			t.Error("there is a node in no tree")
		}
	}
}

// P3.1: all ways in which up to five nodes may hang on one another, or on places that there aren't.
func TestAllParents(t *testing.T) {
	for length := 1; length <= 5; length++ {
		nodes := []tree.Node{}
		for p := -2; p <= length; p++ {
			nodes = append(nodes, tree.Node{Parent: p, Cap: 3})
		}
		lists(length, nodes, func(l []tree.Node) { hold(t, l) })
	}
}

// P3.1: which of several faults is told, and of which node: all pairs of parents and caps, right and wrong ones.
func TestAllFaults(t *testing.T) {
	nodes := []tree.Node{}
	for _, p := range []int{-2, -1, 0, 1, 2, 3} {
		for _, most := range []int64{-1, 0, api.MaxCap, api.MaxCap + 1} {
			nodes = append(nodes, tree.Node{Parent: p, Cap: most})
		}
	}
	for length := 0; length <= 3; length++ {
		lists(length, nodes, func(l []tree.Node) { hold(t, l) })
	}
}

// P3.1: a fault at each place of a list as long as may be, with and without another one behind it.
func TestPlaceOfFault(t *testing.T) {
	faults := []tree.Node{{Parent: -2}, {Parent: 32}, {Parent: -1, Cap: -1}, {Parent: -1, Cap: api.MaxCap + 1}, {Parent: 31, Cap: 1}}
	for i := range 32 {
		for _, f := range faults {
			l := make([]tree.Node, 32)
			for k := range l {
				l[k].Parent = -1
			}
			l[i] = f
			hold(t, l)
			for _, behind := range faults {
				l[31] = behind
				hold(t, l)
			}
		}
	}
}

// P1: whatever list it is, all calls end and none panics.
func TestAnyList(t *testing.T) {
	ask := func(l []tree.Node) {
		tree.Check(l)
		for n := -2; n < len(l)+2; n++ {
			tree.Path(l, n)
			tree.Level(l, n)
		}
		tree.Path(l, math.MinInt)
		tree.Path(l, math.MaxInt)
	}
	nodes := []tree.Node{}
	for _, p := range []int{math.MinInt, -2, -1, 0, 1, 2, 3, math.MaxInt} {
		nodes = append(nodes, tree.Node{Parent: p, Cap: math.MinInt64}, tree.Node{Parent: p, Cap: math.MaxInt64})
	}
	for length := 0; length <= 3; length++ {
		lists(length, nodes, ask)
	}
	for _, length := range []int{31, 32, 33, 5000} {
		l := make([]tree.Node, length)
		for i := range l {
			l[i].Parent = (i + 1) % length
		}
		ask(l)
	}
}

// P3.2: what is handed in isn't changed, its spare room neither.
func TestHandedInStays(t *testing.T) {
	for _, l := range [][]tree.Node{of(-1, 0, 1), of(1, 0), of(-2), of(0, 1, 2, 0), of(-1, 0, 1, 2)} {
		room := append(slices.Clone(l), of(8, 9, 10, 11)...)
		was := slices.Clone(room)
		in := room[:len(l)]
		tree.Check(in)
		for n := -1; n <= len(in); n++ {
			tree.Path(in, n)
			tree.Level(in, n)
		}
		if !slices.Equal(room, was) {
			t.Errorf("%v became %v", was, room)
		}
	}
}

// P3.2: a Path stays as it was whatever becomes of the tree, and of other Paths.
func TestPathIsNew(t *testing.T) {
	l := of(-1, 0, 1)
	first, second := tree.Path(l, 2), tree.Path(l, 2)
	scribble := append(second, -9)
	for i := range scribble {
		scribble[i] = -9
	}
	for i := range second {
		second[i] = -9
	}
	l[2].Parent = 0
	if !slices.Equal(first, []int{2, 1, 0}) {
		t.Error("a Path that was answered is now", first)
	}
	if p := tree.Path(l, 2); !slices.Equal(p, []int{2, 0}) {
		t.Error("of the tree as it is now:", p)
	}
	if p := tree.Path(l, 1); !slices.Equal(p, []int{1, 0}) {
		t.Error(p)
	}
}

// FuzzTree goes on from the seeds by: go test -fuzz FuzzTree ./tree
func FuzzTree(f *testing.F) {
	f.Add([]byte{255, 0, 1}, int64(5))
	f.Add([]byte{1, 0}, int64(-1))
	f.Add([]byte{255, 0, 1, 2}, int64(api.MaxCap+1))
	f.Fuzz(func(t *testing.T, parents []byte, most int64) {
		l := []tree.Node{}
		for i, p := range parents {
			n := tree.Node{Parent: int(int8(p))}
			if i%2 == 1 {
				n.Cap = most
			}
			l = append(l, n)
		}
		hold(t, l)
		for n := -1; n <= len(l); n++ {
			tree.Path(l, n)
			tree.Level(l, n)
		}
	})
}
