package credit_test

import (
	"math"
	"math/big"
	"math/rand"
	"slices"
	"testing"

	"stopgate/api"
	"stopgate/credit"
	"stopgate/tree"
)

const most = api.MaxCap

// desks is a firm with two desks, three traders under these, one node alone, and one more trader of the firm.
func desks(top, desk, trader int64) []tree.Node {
	return []tree.Node{
		{Parent: -1, Cap: top}, {Parent: 0, Cap: desk}, {Parent: 0, Cap: desk},
		{Parent: 1, Cap: trader}, {Parent: 1, Cap: trader}, {Parent: 2, Cap: trader},
		{Parent: -1, Cap: trader}, {Parent: 0, Cap: trader},
	}
}

func clone(s credit.State) credit.State {
	return credit.State{Nodes: slices.Clone(s.Nodes), Used: slices.Clone(s.Used)}
}

func same(a, b credit.State) bool {
	return slices.Equal(a.Nodes, b.Nodes) && slices.Equal(a.Used, b.Used)
}

// path is worked out here by the parents alone; s is Right.
func path(s credit.State, n int) []int {
	if n < 0 || n >= len(s.Nodes) {
		return nil
	}
	l := []int{n}
	for at := s.Nodes[n].Parent; at != -1; at = s.Nodes[at].Parent {
		l = append(l, at)
	}
	return l
}

func sum(a, b int64) *big.Int { return new(big.Int).Add(big.NewInt(a), big.NewInt(b)) }

// reserve works the chapter's words out by numbers without an end.
func reserve(s credit.State, leaf int, amount int64) (credit.State, api.Code, int) {
	l := path(s, leaf)
	switch {
	case len(l) == 0:
		return s, api.Node, -1
	case amount < 0:
		return s, api.Malformed, -1
	}
	for i, n := range l {
		if sum(s.Used[n], amount).Cmp(big.NewInt(s.Nodes[n].Cap)) > 0 {
			return s, []api.Code{12, 13, 14}[i], n
		}
	}
	u := clone(s)
	for _, n := range l {
		u.Used[n] = sum(s.Used[n], amount).Int64()
	}
	return u, api.OK, -1
}

func release(s credit.State, leaf int, amount int64) (credit.State, bool) {
	l := path(s, leaf)
	if len(l) == 0 || amount < 0 {
		return s, false
	}
	u := clone(s)
	for _, n := range l {
		if u.Used[n] < amount {
			return s, false
		}
		u.Used[n] -= amount
	}
	return u, true
}

func limit(s credit.State, n int, to int64) (credit.State, api.Code) {
	switch {
	case n < 0 || n >= len(s.Nodes):
		return s, api.Node
	case to < 0 || to > 1<<62:
		return s, api.Malformed
	}
	u := clone(s)
	u.Nodes[n].Cap = to
	return u, api.OK
}

// hold holds each call of a State that is Right, with one place and one number, against the words above; what is
// answered must be Right, and what is handed in stay as it was (P4.1, P4.4).
func hold(t *testing.T, s credit.State, n int, amount int64) {
	t.Helper()
	was := clone(s)
	u, c, at := credit.Reserve(s, n, amount)
	wantU, wantC, wantAt := reserve(s, n, amount)
	if !same(u, wantU) || c != wantC || at != wantAt {
		t.Errorf("Reserve of %v, %d, %d: %v, %v, %d; want %v, %v, %d", was, n, amount, u, c.Word(), at, wantU, wantC.Word(), wantAt)
	}
	v, ok := credit.Release(s, n, amount)
	if wantV, wantOk := release(s, n, amount); !same(v, wantV) || ok != wantOk {
		t.Errorf("Release of %v, %d, %d: %v, %v; want %v, %v", was, n, amount, v, ok, wantV, wantOk)
	}
	w, k := credit.Limit(s, n, amount)
	if wantW, wantK := limit(s, n, amount); !same(w, wantW) || k != wantK {
		t.Errorf("Limit of %v, %d, %d: %v, %v; want %v, %v", was, n, amount, w, k.Word(), wantW, wantK.Word())
	}
	for _, x := range []credit.State{u, v, w} {
		if !credit.Right(x) {
			t.Error("isn't Right:", x)
		}
	}
	if !same(s, was) {
		t.Errorf("%v became %v", was, s)
	}
}

// numbers: the amounts, and the caps, at which something turns in one of these States.
func numbers(s credit.State) []int64 {
	l := []int64{0, 1, -1, 2, 7, most - 1, most, most + 1, math.MaxInt64 - 1, math.MaxInt64, math.MinInt64, math.MinInt64 + 1, -most}
	for i, n := range s.Nodes {
		for _, x := range []int64{s.Used[i], n.Cap, n.Cap - s.Used[i], math.MaxInt64 - s.Used[i]} {
			l = append(l, x-1, x)
			if x < math.MaxInt64 {
				l = append(l, x+1)
			}
		}
	}
	return l
}

func holdAll(t *testing.T, s credit.State) {
	t.Helper()
	places := []int{-1, -2, len(s.Nodes), len(s.Nodes) + 1, math.MinInt, math.MaxInt}
	for n := range s.Nodes {
		places = append(places, n)
	}
	for _, n := range places {
		for _, x := range numbers(s) {
			hold(t, s, n, x)
		}
	}
}

// P4.1: which States may be.
func TestRight(t *testing.T) {
	one := []tree.Node{{Parent: -1, Cap: 5}}
	three := []tree.Node{{Parent: -1, Cap: 5}, {Parent: 0, Cap: 10}, {Parent: 1, Cap: most}}
	flat := make([]tree.Node, 33)
	for i := range flat {
		flat[i].Parent = -1
	}
	for i, c := range []struct {
		s    credit.State
		want bool
	}{
		{credit.State{Nodes: one, Used: []int64{0}}, true},
		{credit.State{Nodes: one, Used: []int64{6}}, true}, // above its Cap
		{credit.State{Nodes: one, Used: []int64{most}}, true},
		{credit.State{Nodes: one, Used: []int64{most + 1}}, false},
		{credit.State{Nodes: one, Used: []int64{math.MaxInt64}}, false},
		{credit.State{Nodes: one, Used: []int64{-1}}, false},
		{credit.State{Nodes: one, Used: []int64{math.MinInt64}}, false},
		{credit.State{Nodes: one}, false},
		{credit.State{Nodes: one, Used: []int64{0, 0}}, false},
		{credit.State{Used: []int64{0}}, false},
		{credit.State{}, false},
		{credit.State{Nodes: []tree.Node{}, Used: []int64{}}, false},
		{credit.State{Nodes: three, Used: []int64{3, 2, 1}}, true},
		{credit.State{Nodes: three, Used: []int64{0, 0, most}}, true}, // more below than above
		{credit.State{Nodes: three, Used: []int64{0, 0}}, false},
		{credit.State{Nodes: three, Used: []int64{0, 0, -1}}, false},
		{credit.State{Nodes: three, Used: []int64{0, most + 1, 0}}, false},
		{credit.State{Nodes: []tree.Node{{Parent: 0}}, Used: []int64{0}}, false},
		{credit.State{Nodes: []tree.Node{{Parent: 1}}, Used: []int64{0}}, false},
		{credit.State{Nodes: []tree.Node{{Parent: -1, Cap: -1}}, Used: []int64{0}}, false},
		{credit.State{Nodes: []tree.Node{{Parent: -1, Cap: most + 1}}, Used: []int64{0}}, false},
		{credit.State{Nodes: flat[:32], Used: make([]int64, 32)}, true},
		{credit.State{Nodes: flat, Used: make([]int64, 33)}, false},
	} {
		if credit.Right(c.s) != c.want {
			t.Errorf("%d: Right isn't %v", i, c.want)
		}
	}
}

// P4.1: at the beginning nothing is reserved.
func TestBegin(t *testing.T) {
	for _, l := range [][]tree.Node{desks(5, 6, 7), {{Parent: -1}}, slices.Repeat([]tree.Node{{Parent: -1, Cap: most}}, 32)} {
		s := credit.Begin(l)
		if !slices.Equal(s.Nodes, l) || !slices.Equal(s.Used, make([]int64, len(l))) || !credit.Right(s) {
			t.Error(s)
		}
	}
	for _, l := range [][]tree.Node{nil, {}, {{Parent: 0}}, make([]tree.Node, 33)} {
		if s := credit.Begin(l); credit.Right(s) {
			t.Error("of no tree:", s)
		}
	}
}

// P4.1, by what the document writes out, and its edges.
func TestReserveExamples(t *testing.T) {
	chain := []tree.Node{{Parent: -1, Cap: 5}, {Parent: 0, Cap: 10}, {Parent: 1, Cap: 20}}
	for i, c := range []struct {
		used   []int64
		leaf   int
		amount int64
		code   api.Code
		at     int
		then   []int64
	}{
		{[]int64{0, 0, 0}, 1, 6, api.Desk, 0, []int64{0, 0, 0}},
		{[]int64{0, 0, 0}, 1, 5, api.OK, -1, []int64{5, 5, 0}},
		{[]int64{0, 0, 0}, 1, 11, api.Trader, 1, []int64{0, 0, 0}},
		{[]int64{0, 0, 0}, 2, 5, api.OK, -1, []int64{5, 5, 5}},
		{[]int64{0, 0, 0}, 2, 6, api.Firm, 0, []int64{0, 0, 0}},
		{[]int64{0, 0, 0}, 2, 11, api.Desk, 1, []int64{0, 0, 0}},
		{[]int64{0, 0, 0}, 2, 21, api.Trader, 2, []int64{0, 0, 0}},
		{[]int64{0, 0, 0}, 0, 6, api.Trader, 0, []int64{0, 0, 0}},
		{[]int64{0, 0, 0}, 0, 5, api.OK, -1, []int64{5, 0, 0}},
		{[]int64{0, 0, 0}, 2, 0, api.OK, -1, []int64{0, 0, 0}},
		{[]int64{5, 0, 0}, 2, 0, api.OK, -1, []int64{5, 0, 0}},
		{[]int64{6, 0, 0}, 2, 0, api.Firm, 0, []int64{6, 0, 0}}, // its Cap was lowered
		{[]int64{6, 11, 21}, 2, 0, api.Trader, 2, []int64{6, 11, 21}},
		{[]int64{4, 9, 19}, 2, 1, api.OK, -1, []int64{5, 10, 20}},
		{[]int64{0, 0, 0}, 2, math.MaxInt64, api.Trader, 2, []int64{0, 0, 0}},
		{[]int64{0, 0, 1}, 2, math.MaxInt64, api.Trader, 2, []int64{0, 0, 1}}, // the sum would go round
		{[]int64{0, 0, most}, 2, math.MaxInt64, api.Trader, 2, []int64{0, 0, most}},
		{[]int64{0, 0, 0}, 2, -1, api.Malformed, -1, []int64{0, 0, 0}},
		{[]int64{6, 11, 21}, 2, -1, api.Malformed, -1, []int64{6, 11, 21}},
		{[]int64{3, 3, 3}, 2, math.MinInt64, api.Malformed, -1, []int64{3, 3, 3}},
		{[]int64{0, 0, 0}, 3, 1, api.Node, -1, []int64{0, 0, 0}},
		{[]int64{0, 0, 0}, -1, 1, api.Node, -1, []int64{0, 0, 0}},
		{[]int64{0, 0, 0}, 3, -1, api.Node, -1, []int64{0, 0, 0}}, // ahead of Malformed
	} {
		s := credit.State{Nodes: chain, Used: c.used}
		u, code, at := credit.Reserve(s, c.leaf, c.amount)
		if code != c.code || at != c.at || !slices.Equal(u.Used, c.then) || !slices.Equal(u.Nodes, chain) {
			t.Errorf("%d: %v, %v, %d", i, u, code.Word(), at)
		}
	}
}

// P4.1, by numbers written out.
func TestReleaseAndLimitExamples(t *testing.T) {
	s := credit.State{Nodes: []tree.Node{{Parent: -1, Cap: 5}, {Parent: 0, Cap: 10}, {Parent: 1, Cap: 20}}, Used: []int64{9, 4, 6}}
	for _, c := range []struct {
		leaf   int
		amount int64
		ok     bool
		then   []int64
	}{
		{2, 4, true, []int64{5, 0, 2}}, {2, 5, false, []int64{9, 4, 6}}, {2, 7, false, []int64{9, 4, 6}},
		{1, 4, true, []int64{5, 0, 6}}, {0, 9, true, []int64{0, 4, 6}}, {0, 10, false, []int64{9, 4, 6}},
		{2, 0, true, []int64{9, 4, 6}}, {2, -1, false, []int64{9, 4, 6}}, {2, math.MinInt64, false, []int64{9, 4, 6}},
		{2, math.MaxInt64, false, []int64{9, 4, 6}}, {3, 0, false, []int64{9, 4, 6}}, {-1, 0, false, []int64{9, 4, 6}},
	} {
		if u, ok := credit.Release(s, c.leaf, c.amount); ok != c.ok || !slices.Equal(u.Used, c.then) || !slices.Equal(u.Nodes, s.Nodes) {
			t.Errorf("Release of %d, %d: %v, %v", c.leaf, c.amount, u, ok)
		}
	}
	for _, c := range []struct {
		n    int
		most int64
		code api.Code
		caps [3]int64
	}{
		{0, 0, api.OK, [3]int64{0, 10, 20}}, {1, most, api.OK, [3]int64{5, most, 20}}, {2, 19, api.OK, [3]int64{5, 10, 19}},
		{0, 5, api.OK, [3]int64{5, 10, 20}}, {0, most + 1, api.Malformed, [3]int64{5, 10, 20}}, {0, -1, api.Malformed, [3]int64{5, 10, 20}},
		{3, 1, api.Node, [3]int64{5, 10, 20}}, {-1, 1, api.Node, [3]int64{5, 10, 20}}, {3, -1, api.Node, [3]int64{5, 10, 20}},
	} {
		u, code := credit.Limit(s, c.n, c.most)
		caps := [3]int64{u.Nodes[0].Cap, u.Nodes[1].Cap, u.Nodes[2].Cap}
		parents := [3]int{u.Nodes[0].Parent, u.Nodes[1].Parent, u.Nodes[2].Parent}
		if code != c.code || caps != c.caps || parents != [3]int{-1, 0, 1} || !slices.Equal(u.Used, s.Used) {
			t.Errorf("Limit of %d, %d: %v, %v", c.n, c.most, u, code.Word())
		}
	}
}

// P4.1 and P1: a chain of three of all caps and all that is reserved, at the ends and beside them.
func TestChainAtTheEdges(t *testing.T) {
	edges := []int64{0, 1, 6, most - 1, most}
	var s credit.State
	for _, a := range edges {
		for _, b := range edges {
			for _, c := range edges {
				s.Nodes = []tree.Node{{Parent: 1, Cap: a}, {Parent: 2, Cap: b}, {Parent: -1, Cap: c}}
				s.Used = []int64{c, a, b}
				holdAll(t, s)
				s.Used = []int64{a, b, c}
				holdAll(t, s)
				s.Used = []int64{0, 0, 0}
				holdAll(t, s)
			}
		}
	}
}

// P4.1: a tree of several desks and traders.
func TestDesks(t *testing.T) {
	for _, used := range [][]int64{{0, 0, 0, 0, 0, 0, 0, 0}, {20, 10, 5, 6, 4, 5, 1, 5}, {1, 2, 3, 4, 5, 6, 7, 8}, {8, 7, 6, 5, 4, 3, 2, 1}} {
		holdAll(t, credit.State{Nodes: desks(20, 10, 6), Used: used})
		holdAll(t, credit.State{Nodes: desks(6, 10, 20), Used: used})
		holdAll(t, credit.State{Nodes: desks(most, most, most), Used: used})
	}
}

type hung struct {
	leaf   int
	amount int64
}

// under is what is reserved under node n, by what hangs there.
func under(s credit.State, open []hung, n int) int64 {
	all := int64(0)
	for _, h := range open {
		if slices.Contains(path(s, h.leaf), n) {
			all += h.amount
		}
	}
	return all
}

// P4.1 and P4.2: whatever was reserved, released and limited in between, under each node is the sum of what hangs
// there; when all of it is released nothing is reserved.
func TestManySteps(t *testing.T) {
	draw := rand.New(rand.NewSource(4))
	for range 40 {
		s := credit.Begin(desks(60, 35, 20))
		var open []hung
		for range 200 {
			n, amount := draw.Intn(len(s.Nodes)+1), draw.Int63n(12)
			hold(t, s, n, amount)
			switch draw.Intn(5) {
			case 0, 1, 2:
				var c api.Code
				if s, c, _ = credit.Reserve(s, n, amount); c == api.OK {
					open = append(open, hung{n, amount})
				}
			case 3:
				if len(open) > 0 {
					i := draw.Intn(len(open))
					s, _ = credit.Release(s, open[i].leaf, open[i].amount)
					open = slices.Delete(open, i, i+1)
				}
			case 4:
				s, _ = credit.Limit(s, n, draw.Int63n(60))
			}
			for i, used := range s.Used {
				if want := under(s, open, i); used != want {
					t.Fatalf("under %d: %d; want %d", i, used, want)
				}
			}
		}
		for _, h := range open {
			var ok bool
			if s, ok = credit.Release(s, h.leaf, h.amount); !ok {
				t.Fatal("what was reserved isn't released:", h)
			}
		}
		if slices.Max(s.Used) != 0 {
			t.Fatal("still reserved:", s.Used)
		}
	}
}

// P4.2: what was reserved and released is as it was.
func TestReservedAndReleased(t *testing.T) {
	for _, used := range [][]int64{{0, 0, 0, 0, 0, 0, 0, 0}, {9, 5, 4, 2, 3, 4, 1, 0}} {
		s := credit.State{Nodes: desks(30, 20, 10), Used: used}
		for n := range s.Nodes {
			for _, amount := range []int64{0, 1, 2, 5, 6, 7, 8} {
				u, c, _ := credit.Reserve(s, n, amount)
				v, ok := credit.Release(u, n, amount)
				if c == api.OK && (!ok || !same(v, s)) {
					t.Errorf("%d reserved and released at %d: %v, %v; it was %v", amount, n, v, ok, s)
				}
			}
		}
	}
	s := credit.Begin([]tree.Node{{Parent: -1, Cap: most}, {Parent: 0, Cap: most}})
	u, c, _ := credit.Reserve(s, 1, most)
	if v, ok := credit.Release(u, 1, most); c != api.OK || u.Used[0] != most || !ok || !same(v, s) {
		t.Error(u, c.Word(), v, ok)
	}
}

// P4.3: behind a lower Cap nothing else is reserved, all that was refused is refused, and more of the rest.
func TestLowerCap(t *testing.T) {
	s := credit.State{Nodes: desks(30, 20, 10), Used: []int64{9, 5, 4, 2, 3, 4, 1, 0}}
	for n := range s.Nodes {
		before, refused := s, 0
		for to := s.Nodes[n].Cap; to >= 0; to-- {
			u, c := credit.Limit(before, n, to)
			if c != api.OK || !slices.Equal(u.Used, s.Used) {
				t.Fatal("a Limit changed what is reserved:", u)
			}
			for leaf := range s.Nodes {
				for amount := range int64(40) {
					_, was, _ := credit.Reserve(before, leaf, amount)
					_, is, _ := credit.Reserve(u, leaf, amount)
					if was != api.OK && is == api.OK {
						t.Errorf("Cap %d of node %d lets %d through at %d, which a greater one refused", to, n, amount, leaf)
					}
					if was == api.OK && is != api.OK {
						refused++
					}
				}
			}
			before = u
		}
		if refused == 0 {
			t.Error("no lower Cap of node", n, "refuses anything")
		}
		if v, ok := credit.Release(before, 3, 2); !ok || v.Used[3] != 0 || v.Used[1] != 3 || v.Used[0] != 7 {
			t.Error("what is above its Cap can't be released:", v)
		}
	}
}

// answers: what each call answers, of refusals too.
func answers(s credit.State) []credit.State {
	var l []credit.State
	for _, n := range []int{2, 0, -1, 9} {
		for _, amount := range []int64{1, 0, -1, 100, math.MaxInt64} {
			u, _, _ := credit.Reserve(s, n, amount)
			v, _ := credit.Release(s, n, amount)
			w, _ := credit.Limit(s, n, amount)
			l = append(l, u, v, w)
		}
	}
	return append(l, credit.Begin(s.Nodes))
}

// scribble spoils all that a State can reach, its spare room too.
func scribble(s credit.State) {
	for i := range s.Nodes[:cap(s.Nodes)] {
		s.Nodes[:cap(s.Nodes)][i] = tree.Node{Parent: -77, Cap: -77}
	}
	for i := range s.Used[:cap(s.Used)] {
		s.Used[:cap(s.Used)][i] = -77
	}
}

// P4.4: nothing that is handed in is changed, its spare room neither; and answers share nothing with that, nor with one another.
func TestAnswersAreNew(t *testing.T) {
	nodes := append([]tree.Node{{Parent: -1, Cap: 9}, {Parent: 0, Cap: 8}, {Parent: 1, Cap: 7}}, tree.Node{Parent: 55}, tree.Node{Parent: 66})
	used := []int64{4, 3, 2, 55, 66}
	in := credit.State{Nodes: nodes[:3], Used: used[:3]}
	wasNodes, wasUsed := slices.Clone(nodes), slices.Clone(used)
	first, second := answers(in), answers(in)
	if !slices.Equal(nodes, wasNodes) || !slices.Equal(used, wasUsed) {
		t.Fatal("what was handed in is now", nodes, used)
	}
	want := []credit.State{}
	for _, s := range first {
		want = append(want, clone(s))
	}
	for i, s := range second {
		scribble(s)
		if !slices.Equal(nodes, wasNodes) || !slices.Equal(used, wasUsed) {
			t.Fatal("answer", i, "shares with what was handed in")
		}
	}
	scribble(credit.State{Nodes: nodes, Used: used})
	for i := range first {
		if !same(first[i], want[i]) {
			t.Error("answer", i, "changed to", first[i])
		}
		scribble(first[i])
	}
}

// P1: of States that aren't Right each call ends and none panics.
func TestStatesThatArentRight(t *testing.T) {
	lists := [][]tree.Node{
		nil, {}, {{Parent: 0, Cap: 5}}, {{Parent: 1}, {Parent: 0}}, {{Parent: -2}}, {{Parent: 7}}, {{Parent: math.MaxInt}}, {{Parent: math.MinInt}},
		{{Parent: -1, Cap: 5}}, {{Parent: -1, Cap: math.MaxInt64}}, {{Parent: -1, Cap: math.MinInt64}, {Parent: 0, Cap: -1}},
		{{Parent: -1, Cap: 5}, {Parent: 0, Cap: 5}, {Parent: 1, Cap: 5}, {Parent: 2, Cap: 5}}, make([]tree.Node, 33), desks(5, 5, 5),
	}
	uses := [][]int64{nil, {}, {0}, {-1}, {math.MinInt64}, {math.MaxInt64}, {math.MaxInt64, math.MinInt64}, make([]int64, 7), make([]int64, 33)}
	places := []int{-1, 0, 1, 2, 3, 7, 8, 32, 33, math.MinInt, math.MaxInt}
	amounts := []int64{0, 1, -1, most, most + 1, math.MaxInt64, math.MinInt64}
	for _, l := range lists {
		credit.Begin(l)
		for _, used := range uses {
			s := credit.State{Nodes: l, Used: used}
			credit.Right(s)
			for _, n := range places {
				for _, amount := range amounts {
					credit.Reserve(s, n, amount)
					credit.Release(s, n, amount)
					credit.Limit(s, n, amount)
				}
			}
		}
	}
}

// FuzzCredit goes on from the seeds by: go test -fuzz FuzzCredit ./credit
func FuzzCredit(f *testing.F) {
	f.Add(int64(5), int64(10), int64(20), int64(0), int64(0), int64(0), 1, int64(6))
	f.Add(int64(most), int64(most), int64(most), int64(most), int64(1), int64(2), 2, int64(math.MaxInt64))
	f.Add(int64(0), int64(0), int64(0), int64(3), int64(2), int64(1), -1, int64(-1))
	f.Fuzz(func(t *testing.T, a, b, c, x, y, z int64, n int, amount int64) {
		s := credit.State{
			Nodes: []tree.Node{{Parent: -1, Cap: a}, {Parent: 0, Cap: b}, {Parent: 1, Cap: c}, {Parent: 0, Cap: c}},
			Used:  []int64{x, y, z, z},
		}
		right := true
		for _, v := range []int64{a, b, c, x, y, z} {
			right = right && v >= 0 && v <= most
		}
		if credit.Right(s) != right {
			t.Errorf("Right of %v isn't %v", s, right)
		}
		if right {
			hold(t, s, n, amount)
			return
		}
		credit.Reserve(s, n, amount)
		credit.Release(s, n, amount)
		credit.Limit(s, n, amount)
	})
}
