package gate_test

import (
	"cmp"
	"math"
	"math/rand"
	"slices"
	"strconv"
	"testing"

	"stopgate/api"
	"stopgate/book"
	"stopgate/gate"
	"stopgate/hist"
	"stopgate/model"
	"stopgate/rules"
	"stopgate/wire"
)

// free: has nobody a latch?
func free(g *gate.Gate) bool {
	for i := range some {
		if g.Cells().Holder(i) != -1 {
			return false
		}
	}
	return true
}

// under is what is open under a node: the sum of P11.4.
func under(g *gate.Gate, c rules.Config, node int) int64 {
	sum := int64(0)
	for shard := range c.Shards {
		for _, e := range g.Book(shard).Open {
			for n := c.Accounts[e.Order.Account]; n != -1; n = c.Nodes[n].Parent {
				if n == node {
					sum += e.Order.Price * e.Left
				}
			}
		}
	}
	return sum
}

// reserved holds what is reserved against what is open, if all latches are free.
func reserved(t testing.TB, g *gate.Gate, c rules.Config) bool {
	t.Helper()
	if !free(g) {
		return false
	}
	for n := range c.Nodes {
		if got, want := g.Used(n), under(g, c, n); got != want {
			t.Fatalf("under %d there is reserved %d; open is %d", n, got, want)
		}
	}
	return true
}

// ordered holds the Log and what went out against layer 10, at any time.
func ordered(t testing.TB, g *gate.Gate, c rules.Config, workers int) {
	t.Helper()
	l := g.Log()
	out, at := g.Out()
	if !hist.Right(workers, l) {
		t.Fatalf("the Log isn't Right: %+v", l)
	}
	if n := hist.Check(c, workers, l); n != -1 {
		t.Fatalf("%+v isn't answered as by the Model", l[n])
	}
	if !hist.Queue(c, workers, l, out) {
		t.Fatalf("what went out isn't what the Model lets: %v", out)
	}
	if len(at) != len(out) || !slices.IsSorted(at) {
		t.Fatalf("%v went out at %v", out, at)
	}
	if !slices.IsSortedFunc(l, func(a, b hist.Entry) int { return cmp.Compare(a.Begin, b.Begin) }) {
		t.Fatalf("the Log isn't in the order in which it began: %+v", l)
	}
	for _, e := range l {
		if e.End == 0 && e.Answer != (model.Answer{}) {
			t.Fatalf("%+v is answered, though it isn't over", e)
		}
	}
}

// until is the Begin of the first Rearm that may turn the switch on again behind the Kill k.
func until(l []hist.Entry, k hist.Entry) int {
	least := math.MaxInt
	for _, e := range l {
		if !e.Op.Sweep && e.Op.Msg.Kind == wire.Rearm && (e.End == 0 || e.End > k.Mark) {
			least = min(least, e.Begin)
		}
	}
	return least
}

// stopped holds the Log, and what went out, against P11.3: how many Orders and News were looked at.
func stopped(t testing.TB, g *gate.Gate) int {
	t.Helper()
	l := g.Log()
	out, at := g.Out()
	met := 0
	for _, k := range l {
		if k.Op.Sweep || k.Op.Msg != kill() || k.End == 0 {
			continue
		}
		until := until(l, k)
		for i, o := range out {
			if o.Kind == model.New && at[i] > k.End && at[i] <= until {
				t.Fatalf("%d went out at %d, behind %+v", o.Id, at[i], k)
			}
		}
		for _, e := range l {
			if !e.Op.Sweep && e.Op.Msg.Kind == wire.Order && e.Begin >= k.End && e.End != 0 && e.End <= until {
				if met++; e.Answer.Code != api.Killed && e.Answer.Code != api.Malformed {
					t.Fatalf("%+v, behind %+v", e, k)
				}
			}
		}
	}
	return met
}

// asked holds what went out against what is open: each order went out once, each was asked to be cancelled once at most,
// and if the switch is off each one that is open was.
func asked(t testing.TB, g *gate.Gate, c rules.Config, off bool) {
	t.Helper()
	out, _ := g.Out()
	met := map[model.Out]int{}
	for _, o := range out {
		if met[o]++; met[o] > 1 || o.Kind == model.Cancel && met[model.Out{Id: o.Id}] == 0 {
			t.Fatalf("%+v of %v", o, out)
		}
	}
	for shard := range c.Shards {
		for _, e := range g.Book(shard).Open {
			cancelled := met[model.Out{Kind: model.Cancel, Id: e.Id}] == 1
			if cancelled != (e.State == book.Pending) || off && !cancelled {
				t.Fatalf("%+v; off: %v; %v", e, off, out)
			}
		}
	}
}

// over holds all against all, when nothing goes on any more: what is open and reserved is what a Model has that does it
// in the order of the Marks.
func over(t testing.TB, g *gate.Gate, c rules.Config, workers int) int {
	t.Helper()
	ordered(t, g, c, workers)
	l := g.Log()
	slices.SortFunc(l, func(a, b hist.Entry) int { return cmp.Compare(a.Mark, b.Mark) })
	m, _ := model.Begin(c)
	for _, e := range l {
		if e.Mark == 0 || e.End == 0 {
			t.Fatalf("%+v isn't over", e)
		}
		m.Do(e.Op)
	}
	agree(t, g, c, m)
	_, off := m.Epoch()
	asked(t, g, c, off)
	if !reserved(t, g, c) {
		t.Fatal("a latch isn't freed")
	}
	return stopped(t, g)
}

// tight is one in which two orders hardly ever have room beside one another.
func tight() rules.Config {
	c := config(2)
	for n, most := range []int64{190, 130, 130, 100, 100, 100} {
		c.Nodes[n].Cap = most
	}
	return c
}

// ahead is what happened to a Gate of tight: of shard 0 there is 0, and 2, which is Pending, of shard 1 there is 1.
func ahead(t *testing.T, off bool) *gate.Gate {
	t.Helper()
	g := begin(t, tight(), 2)
	for _, m := range []wire.Msg{order(0, 3, 0), order(1, 3, 0), order(0, 2, 1), cancel(2)} {
		do(t, g, 0, m)
	}
	if off {
		do(t, g, 0, kill())
	}
	return g
}

// steps is how many an act makes alone.
func steps(t *testing.T, off bool, m wire.Msg) int {
	t.Helper()
	g := ahead(t, off)
	a := g.Do(0, m)
	for n := 1; ; n++ {
		if a.Step() {
			return n
		}
	}
}

// pair lets a make so many Steps, then b so many, then both go on: by turns, or one ahead of the other.
func pair(t *testing.T, off bool, x, y wire.Msg, i, j int) {
	t.Helper()
	g := ahead(t, off)
	a, b := g.Do(0, x), (*gate.Act)(nil)
	for range i {
		a.Step()
	}
	b = g.Do(1, y)
	for range j {
		b.Step()
	}
	if ordered(t, g, tight(), 2); j%2 == 0 {
		// As b may wait for a, it is stepped till it goes on no more.
		for range 60 {
			a.Step()
		}
	}
	if rounds := turns([]*gate.Act{a, b}, 200); rounds == 200 {
		t.Fatalf("%+v and %+v don't end", x, y)
	}
	over(t, g, tight(), 2)
}

// P11.2, P11.3, P11.4: any two things, the one begun at any Step of the other, and going on with any of its own.
func TestAnyTwo(t *testing.T) {
	l := []wire.Msg{
		order(0, 5, 5), order(0, 4, 5), order(6, 5, 5), order(1, 5, 5), order(5, 9, 5), order(3, 4, 5), order(4, 11, 5), order(0, 0, 5),
		cancel(0), cancel(1), fill(0, 2), fill(1, 3), ack(2), ack(0), kill(), rearm(), limit(0, 100), limit(1, 70), limit(3, 300), {Kind: 7},
	}
	for at, x := range l {
		t.Run(strconv.Itoa(at), func(t *testing.T) {
			t.Parallel()
			for _, off := range []bool{false, true} {
				n := steps(t, off, x)
				for _, y := range l {
					most := steps(t, off, y)
					for i := range n {
						for j := 1; j <= most; j++ {
							pair(t, off, x, y, i, j)
						}
					}
				}
			}
		})
	}
}

// walk lets workers do what the script says, by turns that it says, and holds all of it against the document's words.
func walk(t testing.TB, d *draw, met map[[2]int]int) {
	t.Helper()
	c, workers := d.config(), 2+d.take(7)
	if d.take(2) == 0 { // the fewer nodes, the more turns about each one
		for i := range c.Accounts {
			c.Accounts[i] = 3 + i%2
		}
	}
	g := begin(t, c, workers)
	acts := make([]*gate.Act, workers)
	for n := 0; len(d.script) > 20; n++ {
		who := d.take(workers)
		if acts[who].Over() {
			acts[who] = g.Do(who, d.msg())
		}
		for range d.take(7) {
			time := g.Cells().Time()
			acts[who].Step()
			if g.Cells().Time() > time+1 {
				t.Fatal("a Step of more than one access")
			}
			if reserved(t, g, c) {
				met[[2]int{-1, 0}]++
			}
		}
		if n%40 == 0 {
			ordered(t, g, c, workers)
			stopped(t, g)
		}
	}
	ordered(t, g, c, workers)
	if turns(acts, workers*gate.Bound()) == workers*gate.Bound() {
		t.Fatal("they don't end")
	}
	met[[2]int{-1, 1}] += over(t, g, c, workers)
	for _, e := range g.Log() {
		kind := e.Op.Msg.Kind
		if e.Op.Sweep {
			kind = 9
		}
		met[[2]int{kind, int(e.Answer.Code)}]++
	}
}

// P11.2, P11.3, P11.4, P2: many workers, whatever they do, by whatever turns.
func TestManyTurns(t *testing.T) {
	r := rand.New(rand.NewSource(7))
	met := map[[2]int]int{}
	for range 600 {
		walk(t, newDraw(r, 300+r.Intn(1500)), met)
	}
	enough(t, met)
	for _, k := range [][2]int{{9, 0}, {-1, 0}, {-1, 1}} {
		if met[k] < 200 {
			t.Error("hardly met:", k, met[k])
		}
	}
}

// P11.3: behind a Kill's end nothing goes out, though others still wait, till a Rearm begins; then orders come again.
func TestStopped(t *testing.T) {
	r := rand.New(rand.NewSource(8))
	for range 300 {
		c := wide(1 + r.Intn(4))
		g := begin(t, c, 8)
		acts := make([]*gate.Act, 8)
		for who := range 6 {
			acts[who] = g.Do(who, order(who%4, 1, int64(who)))
		}
		for range r.Intn(60) {
			acts[r.Intn(6)].Step()
		}
		// The Kill's worker goes on by itself, till it has to wait for others.
		k := g.Do(7, kill())
		for !k.Over() {
			k.Step()
			acts[r.Intn(6)].Step()
		}
		ended := g.Cells().Time()
		late := g.Do(6, order(0, 1, 99))
		turns(append(acts[:6:6], late), 6*gate.Bound())
		out, at := g.Out()
		for i, o := range out {
			if o.Kind == model.New && at[i] > ended {
				t.Fatalf("%v went out at %d, behind %d", o, at[i], ended)
			}
		}
		if late.Answer().Code != api.Killed {
			t.Fatal(late.Answer())
		}
		over(t, g, c, 8)
		if a := do(t, g, 0, rearm()); a != (model.Answer{Id: 1}) {
			t.Fatal(a)
		}
		if a := do(t, g, 1, order(0, 1, 99)); a.Code != api.OK {
			t.Fatal(a)
		}
		over(t, g, c, 8)
	}
}

// P11.2, P11.3: of a Kill that is late, with a Rearm and orders between: its Sweeps are for the epoch that it was.
func TestLateSweeps(t *testing.T) {
	for steps := 4; steps < 12; steps++ {
		c := wide(2)
		g := begin(t, c, 2)
		do(t, g, 0, order(0, 1, 0))
		do(t, g, 0, order(1, 1, 0))
		k := g.Do(0, kill())
		for range steps {
			k.Step()
		}
		if a := do(t, g, 1, rearm()); a != (model.Answer{Id: 1}) {
			t.Fatal(a)
		}
		came := 0
		for account := range 2 {
			// A shard that is being swept is the Kill's, so nothing can come there now.
			a := g.Do(1, order(account, 1, 1))
			for range 60 {
				if a.Step() {
					came++
					break
				}
			}
			if turns([]*gate.Act{a, k}, 100); !a.Over() {
				t.Fatal("it doesn't end")
			}
		}
		over(t, g, c, 2)
		for id, want := range []int{book.Pending, book.Pending, book.Live, book.Live} {
			if e, ok := book.Find(g.Book(id%2), id); !ok || e.State != want {
				t.Fatalf("%d Steps: %d: %+v", steps, id, e)
			}
		}
		if l := g.Log(); l[2].Answer != (model.Answer{}) || l[3].Op != (model.Op{Sweep: true}) || came == 0 {
			t.Fatalf("%+v", l)
		}
		if a := do(t, g, 1, kill()); a != (model.Answer{Id: 1}) {
			t.Fatal(a)
		}
		over(t, g, c, 2)
	}
}

func underway(a *gate.Act) bool { return !a.Over() }

// P11.5: of n acts, of several workers, begun whenever the worker's last one is over, stepped in turn.
func TestRounds(t *testing.T) {
	r := rand.New(rand.NewSource(9))
	for range 200 {
		d := newDraw(r, 2000)
		c, workers := d.config(), 1+d.take(8)
		g := begin(t, c, workers)
		acts := make([]*gate.Act, workers)
		for range d.take(50) { // they may be anywhere when the turns begin
			if who := d.take(workers); acts[who].Over() {
				acts[who] = g.Do(who, d.msg())
			} else {
				acts[who].Step()
			}
		}
		n, left := 60, 60
		for _, a := range acts {
			if !a.Over() {
				n++
			}
		}
		for rounds := 0; left > 0 || slices.ContainsFunc(acts, underway); rounds++ {
			if rounds > n*gate.Bound() {
				t.Fatalf("%d acts aren't over in %d rounds", n, rounds)
			}
			for who, a := range acts {
				if a.Over() && left > 0 {
					acts[who], left = g.Do(who, d.msg()), left-1
				}
				acts[who].Step()
			}
		}
		over(t, g, c, workers)
	}
}

// P11.5: the longest acts there are: Kills of all shards, all full, and all at once.
func TestLongestActs(t *testing.T) {
	for _, workers := range []int{1, 2, 8} {
		c := wide(4)
		g := begin(t, c, workers)
		for n := range int64(api.MaxTable) {
			for account := range 4 {
				if a := do(t, g, 0, order(account, 1, n)); a.Code != api.OK {
					t.Fatal(a)
				}
			}
		}
		var acts []*gate.Act
		for who := range workers {
			acts = append(acts, g.Do(who, kill()))
		}
		if turns(acts, workers*gate.Bound()) == workers*gate.Bound() {
			t.Fatalf("%d Kills don't end", workers)
		}
		if out, _ := g.Out(); len(out) != 2*4*api.MaxTable {
			t.Fatal(len(out))
		}
		over(t, g, c, workers)
	}
}

// P11.5: all at the same latches, in turn, from whatever Steps on.
func TestAllAtOnce(t *testing.T) {
	for _, l := range [][]wire.Msg{
		{order(0, 1, 0), order(6, 1, 1), order(1, 1, 0), order(2, 1, 0), order(3, 1, 0), order(4, 1, 0), order(5, 1, 0), order(0, 1, 1)},
		{kill(), kill(), rearm(), rearm(), kill(), rearm(), kill(), order(0, 1, 5)},
		{fill(0, 1), ack(0), cancel(0), fill(0, 1), limit(0, 5), limit(3, 5), kill(), order(0, 1, 5)},
		{limit(0, 1), limit(0, 2), limit(1, 3), limit(2, 4), order(2, 1, 1), order(1, 1, 1), fill(1, 1), fill(0, 1)},
	} {
		for skew := range 25 {
			for shards := 1; shards <= 4; shards++ {
				c := config(shards)
				g := begin(t, c, 8)
				do(t, g, 0, order(0, 3, 7))
				do(t, g, 0, order(1, 3, 7))
				var acts []*gate.Act
				for who, m := range l {
					a := g.Do(who, m)
					for range who * skew % 25 {
						a.Step()
					}
					acts = append(acts, a)
				}
				if turns(acts, 8*gate.Bound()) == 8*gate.Bound() {
					t.Fatalf("%d, %d: %+v don't end", skew, shards, l)
				}
				over(t, g, c, 8)
			}
		}
	}
}

// FuzzGate goes on from the seeds by: go test -fuzz FuzzGate ./gate
func FuzzGate(f *testing.F) {
	f.Add([]byte{1, 2, 8, 3, 9, 9, 9, 9, 9, 9, 0, 1, 2, 3, 4, 5, 0, 3, 0, 0, 11, 1, 0, 0, 3, 6, 1, 0, 6, 1, 0, 12, 2, 0, 0, 3, 6, 1, 0, 6, 0, 6, 1, 6, 0, 6, 1, 6, 2, 0, 6, 6, 2, 6, 2, 6})
	f.Add([]byte("the gate, that many workers use at once, access by access, with a switch that stops all"))
	f.Fuzz(func(t *testing.T, script []byte) {
		walk(t, &draw{script[:min(len(script), 1500)]}, map[[2]int]int{})
	})
}
