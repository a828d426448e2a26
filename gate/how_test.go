package gate_test

import (
	"slices"
	"strconv"
	"strings"
	"testing"

	"stopgate/api"
	"stopgate/gate"
	"stopgate/hist"
	"stopgate/model"
	"stopgate/rules"
	"stopgate/wire"
)

// some is more words, and latches, than a Gate of these tests has.
const some = 100

// names is what the words and the latches of a Gate are: found out by what is done with them.
type names struct{ words, latches map[int]string }

// picture is all that is to be seen of a Gate.
type picture struct {
	words   [some]int64
	holders [some]int
	time    int
	outs    int
	marks   int
}

func pictureOf(g *gate.Gate) picture {
	p := picture{time: g.Cells().Time()}
	for i := range some {
		p.words[i], p.holders[i] = g.Cells().Peek(i), g.Cells().Holder(i)
	}
	out, _ := g.Out()
	p.outs = len(out)
	for _, e := range g.Log() {
		if e.Mark != 0 {
			p.marks++
		}
	}
	return p
}

// between is in words what happened from was to is; more than one thing at once is none of a Step's.
func (n names) between(t *testing.T, was, is picture) string {
	t.Helper()
	var l []string
	for i := range some {
		switch {
		case was.holders[i] == -1 && is.holders[i] != -1:
			l = append(l, "take "+n.latches[i])
		case was.holders[i] != -1 && is.holders[i] == -1:
			l = append(l, "free "+n.latches[i])
		}
		if was.words[i] != is.words[i] {
			l = append(l, "set "+n.words[i])
		}
	}
	if len(l) > 1 || is.time != was.time+1 || is.outs > was.outs+1 || is.marks > was.marks+1 {
		t.Fatalf("one Step: %v, %d accesses, %d go out, %d take effect", l, is.time-was.time, is.outs-was.outs, is.marks-was.marks)
	}
	if len(l) == 0 {
		l = []string{"look"}
	}
	if is.marks > was.marks {
		l = append(l, "mark")
	}
	if is.outs > was.outs {
		l = append(l, "out")
	}
	return strings.Join(l, " ")
}

// trace is what is done by an act, Step by Step, with nobody's between.
func (n names) trace(t *testing.T, g *gate.Gate, who int, m wire.Msg) []string {
	t.Helper()
	var l []string
	a := g.Do(who, m)
	for was := pictureOf(g); !a.Over(); {
		a.Step()
		is := pictureOf(g)
		l = append(l, n.between(t, was, is))
		was = is
	}
	return l
}

// latch is the one that an act takes with a Step.
func latch(t *testing.T, g *gate.Gate, a *gate.Act) int {
	t.Helper()
	was := pictureOf(g)
	a.Step()
	for i, who := range pictureOf(g).holders {
		if was.holders[i] == -1 && who != -1 {
			return i
		}
	}
	t.Fatal("no latch is taken")
	return 0
}

// changed is the word that changes till an act is over.
func changed(t *testing.T, g *gate.Gate, a *gate.Act) int {
	t.Helper()
	was := pictureOf(g)
	for !a.Step() {
	}
	for i, v := range pictureOf(g).words {
		if v != was.words[i] {
			return i
		}
	}
	t.Fatal("no word is changed")
	return 0
}

// namesOf finds out what is what in a Gate of c; each node has an account, and the first account one of the first shard.
func namesOf(t *testing.T, c rules.Config) names {
	t.Helper()
	n := names{map[int]string{}, map[int]string{}}
	at := begin(t, c, 1)
	k := at.Do(0, kill())
	n.latches[latch(t, at, k)] = "switch"
	n.words[changed(t, at, k)] = "switch"
	for node := range c.Nodes {
		at := begin(t, c, 1)
		a := at.Do(0, limit(node, c.Nodes[node].Cap+1))
		n.latches[latch(t, at, a)] = "node " + strconv.Itoa(node)
		n.words[changed(t, at, a)] = "cap " + strconv.Itoa(node)
	}
	for shard := range c.Shards {
		at := begin(t, c, 1)
		n.latches[latch(t, at, at.Do(0, cancel(shard)))] = "shard " + strconv.Itoa(shard)
	}
	for node := range c.Nodes {
		at := begin(t, c, 1)
		do(t, at, 0, order(slices.Index(c.Accounts, node), 1, 1))
		// Of the words that aren't nought any more that of the node that hangs on none is found first.
		for i, v := range pictureOf(at).words {
			if v == 10 && n.words[i] == "" {
				n.words[i] = "used " + strconv.Itoa(node)
			}
		}
	}
	at = begin(t, c, 1)
	do(t, at, 0, order(0, 1, 1))
	a := at.Do(0, cancel(0))
	for range 2 {
		a.Step()
	}
	n.latches[latch(t, at, a)] = "queue"
	return n
}

// alike: do both lists say the same, but for the order of stores that are one behind the other, and of frees likewise?
func alike(a, b []string) bool { return slices.Equal(sorted(a), sorted(b)) }

func sorted(l []string) []string {
	l = slices.Clone(l)
	for from := 0; from < len(l); {
		to := from + 1
		word, _, _ := strings.Cut(l[from], " ")
		for to < len(l) && (word == "set" || word == "free") && strings.HasPrefix(l[to], word+" ") {
			to++
		}
		slices.Sort(l[from:to])
		from = to
	}
	return l
}

// P11.1: how each thing is done, access by access: what is taken, looked at, changed and freed, in which order, and with
// which access it takes effect and goes out.
func TestHow(t *testing.T) {
	c := config(2)
	n := namesOf(t, c)
	g := begin(t, c, 3)
	look := []string{"look mark"}
	for i, w := range []struct {
		m    wire.Msg
		code api.Code
		want []string
	}{
		{wire.Msg{Kind: 7}, api.Malformed, look}, {cancel(-1), api.Malformed, look}, {order(0, 0, 1), api.Malformed, look}, {order(7, 1, 1), api.Account, look},
		{order(0, 51, 1), api.Size, look}, {order(0, 46, 1), api.Notional, look}, {limit(6, 1), api.Node, look}, {limit(0, 1<<62+1), api.Malformed, look},
		{order(0, 5, 1), api.OK, []string{
			"take shard 0", "take node 3", "take node 1", "take node 0", "look", "look", "look", "look", "look", "look", "look mark",
			"set used 3", "set used 1", "set used 0", "free node 3", "free node 1", "free node 0", "take queue out", "free queue", "free shard 0"}},
		{order(0, 5, 1), api.Duplicate, []string{
			"take shard 0", "take node 3", "take node 1", "take node 0", "look", "look", "look", "look", "look", "look", "look mark",
			"free node 3", "free node 1", "free node 0", "free shard 0"}},
		{order(5, 45, 1), api.OK, []string{
			"take shard 1", "take node 2", "take node 0", "look", "look", "look", "look", "look mark",
			"set used 2", "set used 0", "free node 2", "free node 0", "take queue out", "free queue", "free shard 1"}},
		{order(4, 41, 1), api.Trader, []string{"take shard 0", "take node 0", "look", "look", "look mark", "free node 0", "free shard 0"}},
		{cancel(0), api.OK, []string{"take shard 0", "look mark", "take queue out", "free queue", "free shard 0"}},
		{cancel(0), api.State, []string{"take shard 0", "look mark", "free shard 0"}},
		{cancel(3), api.Unknown, []string{"take shard 1", "look mark", "free shard 1"}},
		{fill(1, 5), api.OK, []string{
			"take shard 1", "take node 2", "take node 0", "look", "look", "look mark", "set used 2", "set used 0", "free node 2", "free node 0", "free shard 1"}},
		{fill(1, 41), api.Over, []string{"take shard 1", "look mark", "free shard 1"}},
		{fill(1, 0), api.Malformed, []string{"take shard 1", "look mark", "free shard 1"}},
		{ack(1), api.State, []string{"take shard 1", "look mark", "free shard 1"}},
		{ack(2), api.Unknown, []string{"take shard 0", "look mark", "free shard 0"}},
		{ack(0), api.OK, []string{
			"take shard 0", "take node 3", "take node 1", "take node 0", "look", "look", "look", "look mark",
			"set used 3", "set used 1", "set used 0", "free node 3", "free node 1", "free node 0", "free shard 0"}},
		{limit(1, 7), api.OK, []string{"take node 1", "set cap 1 mark", "free node 1"}},
		{rearm(), api.State, []string{"take switch", "look mark", "free switch"}},
		{order(3, 1, 1), api.Trader, []string{"take shard 1", "take node 1", "take node 0", "look", "look", "look", "look", "look mark", "free node 1", "free node 0", "free shard 1"}},
		{order(2, 1, 1), api.OK, []string{
			"take shard 0", "take node 5", "take node 2", "take node 0", "look", "look", "look", "look", "look", "look", "look mark",
			"set used 5", "set used 2", "set used 0", "free node 5", "free node 2", "free node 0", "take queue out", "free queue", "free shard 0"}},
		{order(4, 1, 1), api.OK, []string{
			"take shard 0", "take node 0", "look", "look", "look mark", "set used 0", "free node 0", "take queue out", "free queue", "free shard 0"}},
		{kill(), api.OK, []string{
			"take switch", "look", "set switch mark", "free switch",
			"take shard 0", "look mark", "take queue out", "free queue", "take queue out", "free queue", "free shard 0",
			"take shard 1", "look mark", "take queue out", "free queue", "free shard 1"}},
		{order(5, 1, 2), api.Killed, []string{"take shard 1", "take node 2", "take node 0", "look", "look", "look", "look", "look mark", "free node 2", "free node 0", "free shard 1"}},
		{order(0, 0, 1), api.Killed, look}, {wire.Msg{Kind: 9}, api.Malformed, look}, {limit(9, 1), api.Node, look},
		{kill(), api.OK, []string{
			"take switch", "look", "look mark", "free switch", "take shard 0", "look mark", "free shard 0", "take shard 1", "look mark", "free shard 1"}},
		{rearm(), api.OK, []string{"take switch", "look", "set switch mark", "free switch"}},
	} {
		got := n.trace(t, g, i%3, w.m)
		if l := g.Log(); !alike(got, w.want) {
			t.Errorf("%d: %+v:\n%q\nwant\n%q", i, w.m, got, w.want)
		} else if last := slices.IndexFunc(l, func(e hist.Entry) bool { return e.End == g.Cells().Time() }); last == -1 || l[last].Answer.Code != w.code || l[last].Who != i%3 {
			t.Errorf("%d: %+v: %+v", i, w.m, l)
		}
	}
}

// P11.1: latches are the worker's who does it.
func TestWhoseLatches(t *testing.T) {
	for who := range 8 {
		g := begin(t, config(2), 8)
		for _, m := range []wire.Msg{order(0, 5, 1), fill(0, 1), cancel(0), ack(0), order(0, 5, 2), limit(0, 3), kill(), rearm()} {
			for a := g.Do(who, m); !a.Over(); a.Step() {
				for i, h := range pictureOf(g).holders {
					if h != -1 && h != who {
						t.Fatalf("%+v by %d: the latch %d is of %d", m, who, i, h)
					}
				}
			}
			if free := pictureOf(g); slices.Max(free.holders[:]) != -1 {
				t.Fatalf("%+v: a latch isn't freed", m)
			}
		}
	}
}

// turns lets all of them go on in turn, till they are over or there were so many rounds: how many there were.
func turns(acts []*gate.Act, most int) int {
	for round := range most {
		over := true
		for _, a := range acts {
			over = a.Step() && over
		}
		if over {
			return round + 1
		}
	}
	return most
}

// wait is of something that was begun, and of something else that has to wait for it.
type wait struct {
	first wire.Msg
	steps int // that it makes ahead
	then  wire.Msg
	free  int // how many Steps the other one makes till it has to wait
}

// P11.1: whoever needs a latch that another one has waits, access by access, till it is free; nothing is done meanwhile.
func TestWaits(t *testing.T) {
	for i, w := range []wait{
		{order(0, 5, 2), 1, order(0, 5, 3), 0}, // for the shard
		{order(0, 5, 2), 2, order(6, 5, 3), 0}, // for the shard ahead of the node
		{order(0, 5, 2), 2, limit(3, 9), 0},    // for the trader
		{order(0, 5, 2), 3, limit(1, 9), 0},    // for the desk
		{order(0, 5, 2), 4, limit(0, 9), 0},    // for the firm
		{order(0, 5, 2), 4, order(1, 5, 3), 2}, // for the desk, of another trader
		{order(0, 5, 2), 4, order(5, 5, 3), 2}, // for the firm, of another desk
		{order(0, 5, 2), 17, cancel(0), 0},     // for the shard, as it is still to go out
		{order(0, 5, 2), 19, fill(2, 1), 0},
		{order(0, 5, 2), 18, cancel(1), 2}, // for the queue
		{order(0, 5, 2), 1, kill(), 4},     // for the shard of the first Sweep
		{cancel(1), 1, kill(), 9},          // for that of the second one
		{cancel(0), 4, ack(2), 0},
		{cancel(0), 3, cancel(1), 2},
		{fill(0, 1), 1, ack(2), 0},
		{fill(0, 1), 4, order(1, 5, 3), 2},
		{ack(2), 4, order(1, 5, 3), 2},
		{limit(0, 77), 1, fill(1, 2), 3},
		{limit(1, 77), 2, order(0, 5, 3), 2},
		{limit(1, 77), 2, limit(1, 78), 0},
		{kill(), 1, rearm(), 0},
		{kill(), 3, kill(), 0},
		{rearm(), 1, kill(), 0},
		{rearm(), 2, rearm(), 0},
		{kill(), 5, cancel(0), 0},
		{kill(), 7, cancel(1), 2}, // for the queue, as something of shard 0 goes out
	} {
		waits(t, i, w)
	}
}

func waits(t *testing.T, i int, w wait) {
	t.Helper()
	g := begin(t, config(2), 2)
	for _, m := range []wire.Msg{order(0, 5, 0), order(1, 5, 0), order(0, 5, 1), cancel(2)} {
		do(t, g, 0, m)
	}
	first := g.Do(0, w.first)
	for range w.steps {
		first.Step()
	}
	then := g.Do(1, w.then)
	for range w.free {
		was := pictureOf(g)
		if then.Step(); pictureOf(g) == was {
			t.Fatalf("%d: %+v waits too soon", i, w.then)
		}
	}
	was, log := pictureOf(g), g.Log()
	for range 20 {
		over := then.Step()
		was.time++
		if pictureOf(g) != was || over || !slices.Equal(g.Log(), log) {
			t.Fatalf("%d: %+v doesn't wait for %+v", i, w.then, w.first)
		}
	}
	if turns([]*gate.Act{first, then}, 100) == 100 {
		t.Fatalf("%d: %+v and %+v don't end", i, w.first, w.then)
	}
}

// P11.3, P11.1: a Kill ends only when what came ahead of it has gone out, wherever that is when it is switched off.
func TestKillWaits(t *testing.T) {
	const mark, all = 11, 20 // an Order's Steps
	for steps := range all {
		g := begin(t, config(2), 2)
		o := g.Do(0, order(0, 5, 1))
		for range steps {
			o.Step()
		}
		k := g.Do(1, kill())
		for range 60 {
			k.Step()
		}
		if k.Over() != (steps == 0) {
			t.Fatalf("%d: the Kill is over: %v", steps, k.Over())
		}
		turns([]*gate.Act{o, k}, 100)
		code, want := api.Killed, []model.Out(nil)
		if steps >= mark {
			code, want = api.OK, []model.Out{{Kind: model.New}, {Kind: model.Cancel}}
		}
		out, _ := g.Out()
		if !o.Over() || !k.Over() || o.Answer().Code != code || !slices.Equal(out, want) || len(g.Book(0).Open) != len(want)/2 {
			t.Fatalf("%d: %+v, %+v, %v, %+v", steps, o.Answer(), k.Answer(), out, g.Book(0))
		}
	}
}
