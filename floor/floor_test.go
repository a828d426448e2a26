package floor_test

import (
	"math"
	"math/big"
	"math/rand"
	"slices"
	"testing"

	"stopgate/api"
	"stopgate/floor"
	"stopgate/gate"
	"stopgate/hist"
	"stopgate/model"
	"stopgate/rules"
	"stopgate/tree"
	"stopgate/wire"
)

// config is one of a firm, two desks and two traders: much is refused, and most orders need the same nodes.
func config(shards int) rules.Config {
	return rules.Config{
		Shards: shards, Window: 2, Rate: 9, Table: 3,
		Nodes:    []tree.Node{{Parent: -1, Cap: 300}, {Parent: 0, Cap: 200}, {Parent: 0, Cap: 150}, {Parent: 1, Cap: 120}, {Parent: 1, Cap: 110}},
		Accounts: []int{3, 4, 2, 3},
		Symbols:  []rules.Symbol{{Price: 10, Qty: 50, Worth: 140, Band: 0.5}, {Price: 5, Qty: 9, Worth: math.MaxInt64, Band: math.Inf(1)}},
	}
}

// roomy is one of a single node, that refuses nothing.
func roomy(shards int) rules.Config {
	return rules.Config{
		Shards: shards, Rate: api.MaxRate, Table: api.MaxTable, Nodes: []tree.Node{{Parent: -1, Cap: api.MaxCap}}, Accounts: []int{0, 0, 0, 0},
		Symbols: []rules.Symbol{{Price: 10, Qty: api.MaxQty, Worth: math.MaxInt64, Band: math.Inf(1)}},
	}
}

func order(account int, qty, number int64) wire.Msg {
	return wire.Msg{Order: rules.Order{Account: account, Price: 10, Qty: qty, Number: number}}
}

var (
	kill  = wire.Msg{Kind: wire.Kill}
	rearm = wire.Msg{Kind: wire.Rearm}
)

func begin(t testing.TB, c rules.Config, l [][]wire.Msg) *floor.Floor {
	t.Helper()
	f, code := floor.New(c, l)
	if f == nil || code != api.OK {
		t.Fatalf("New of %+v, %d lists: %v", c, len(l), code.Word())
	}
	return f
}

// anyMsg is any message, most of them such as have something to do.
func anyMsg(r *rand.Rand) wire.Msg {
	id := r.Intn(9)
	switch r.Intn(16) {
	case 0:
		return wire.Msg{Kind: wire.Cancel, Id: id}
	case 1, 2:
		return wire.Msg{Kind: wire.Fill, Id: id, Qty: int64(r.Intn(4))}
	case 3, 4:
		return wire.Msg{Kind: wire.Ack, Id: id}
	case 5:
		return kill
	case 6, 7:
		return rearm
	case 8:
		return wire.Msg{Kind: wire.Limit, Node: r.Intn(6), Most: int64(r.Intn(400) - 5)}
	case 9:
		return wire.Msg{Kind: r.Intn(9), Id: r.Intn(2), Qty: int64(r.Intn(2))}
	default:
		o := rules.Order{Account: r.Intn(5), Symbol: r.Intn(7) / 3, Sell: r.Intn(2) == 0, Price: int64(4 + r.Intn(13)), Qty: int64(r.Intn(9)), Number: int64(r.Intn(20))}
		return wire.Msg{Order: o}
	}
}

// anyLists is what so many workers do; some of them nothing.
func anyLists(r *rand.Rand, workers, most int) [][]wire.Msg {
	l := make([][]wire.Msg, workers)
	for who := range l {
		for range r.Intn(most + 1) {
			l[who] = append(l[who], anyMsg(r))
		}
	}
	return l
}

// anyPick is any number, most of them near 0, some of them at the ends of what a number may be.
func anyPick(r *rand.Rand) int {
	switch r.Intn(4) {
	case 0:
		return int(r.Uint64())
	case 1:
		return -r.Intn(20)
	case 2:
		return []int{math.MaxInt, math.MinInt, math.MaxInt - 1, math.MinInt + 1}[r.Intn(4)]
	default:
		return r.Intn(20)
	}
}

func anyPicks(r *rand.Rand, n int) []int {
	l := make([]int, n)
	for i := range l {
		l[i] = anyPick(r)
	}
	return l
}

func count(l [][]wire.Msg) int {
	n := 0
	for _, messages := range l {
		n += len(messages)
	}
	return n
}

// twin is what a Floor is to be like: a Gate of its own, gone on with as the chapter's words say.
type twin struct {
	gate  *gate.Gate
	lists [][]wire.Msg
	begun []int         // how many of each list
	acts  [][]*gate.Act // of each worker, all that it began
}

func twinOf(c rules.Config, l [][]wire.Msg) *twin {
	g, _ := gate.New(c, len(l))
	return &twin{gate: g, lists: l, begun: make([]int, len(l)), acts: make([][]*gate.Act, len(l))}
}

// who is the worker of a pick, by numbers without an end.
func (w *twin) who(k int) int {
	n := big.NewInt(int64(k))
	if k < 0 {
		n.Add(n, new(big.Int).Lsh(big.NewInt(1), 64))
	}
	return int(n.Mod(n, big.NewInt(int64(len(w.lists)))).Int64())
}

func (w *twin) idle(who int) bool {
	return !slices.ContainsFunc(w.acts[who], func(a *gate.Act) bool { return !a.Over() })
}

func (w *twin) pick(k int) bool {
	who := w.who(k)
	if w.idle(who) {
		if w.begun[who] == len(w.lists[who]) {
			return false
		}
		w.acts[who] = append(w.acts[who], w.gate.Do(who, w.lists[who][w.begun[who]]))
		w.begun[who]++
	}
	w.acts[who][len(w.acts[who])-1].Step()
	return true
}

func (w *twin) done() bool {
	for who := range w.lists {
		if !w.idle(who) || w.begun[who] < len(w.lists[who]) {
			return false
		}
	}
	return true
}

func (w *twin) rest(rounds int) int {
	if w.done() {
		return 0
	}
	for n := 1; n <= rounds; n++ {
		for who := range w.lists {
			w.pick(who)
		}
		if w.done() {
			return n
		}
	}
	return -1
}

func sameGates(f, g *gate.Gate) bool {
	fOut, fAt := f.Out()
	gOut, gAt := g.Out()
	return f.Cells().Time() == g.Cells().Time() && slices.Equal(f.Log(), g.Log()) && slices.Equal(fOut, gOut) && slices.Equal(fAt, gAt)
}

// same holds a Floor against its twin: what was done, by whom and when, and what isn't begun.
func (w *twin) same(t testing.TB, f *floor.Floor) {
	t.Helper()
	if !sameGates(f.Gate(), w.gate) {
		t.Fatalf("Log: %+v; want %+v", f.Gate().Log(), w.gate.Log())
	}
	for who, l := range w.lists {
		if got, want := f.Left(who), len(l)-w.begun[who]; got != want {
			t.Fatalf("Left of %d: %d; want %d", who, got, want)
		}
	}
}

// P12.1: New answers gate.New's Code of as many workers as there are lists, and beside a Code nothing.
func TestNew(t *testing.T) {
	for i, spoil := range []func(c *rules.Config){
		func(c *rules.Config) {},
		func(c *rules.Config) { c.Shards = 5 },
		func(c *rules.Config) { c.Nodes = nil },
		func(c *rules.Config) { c.Nodes = make([]tree.Node, 33) },
		func(c *rules.Config) { c.Nodes[0].Parent = 9 },
		func(c *rules.Config) { c.Nodes[0].Parent = 3 },
		func(c *rules.Config) { c.Accounts = nil },
		func(c *rules.Config) { c.Accounts[1] = 5 },
		func(c *rules.Config) { c.Symbols = nil },
		func(c *rules.Config) { c.Symbols[1].Band = math.NaN() },
	} {
		c := config(2)
		spoil(&c)
		for _, n := range []int{0, 1, 2, 7, 8, 9, 10, 1000} {
			_, want := gate.New(c, n)
			f, code := floor.New(c, make([][]wire.Msg, n))
			if code != want || (f != nil) != (want == api.OK) || (want == api.OK) != (i == 0 && n > 0 && n < 9) {
				t.Errorf("%d: %d lists: %v; want %v", i, n, code.Word(), want.Word())
			}
		}
	}
	if f, code := floor.New(config(2), nil); f != nil || code != api.Malformed {
		t.Error("no lists:", code.Word())
	}
}

// P12.1: of a new Floor nothing was done, and its Gate is one of the Config, for just its workers.
func TestNothingPicked(t *testing.T) {
	for workers := 1; workers <= api.MaxWorkers; workers++ {
		l := make([][]wire.Msg, workers)
		for who := range l {
			l[who] = make([]wire.Msg, who)
		}
		f := begin(t, config(3), l)
		for who := range l {
			if f.Left(who) != who {
				t.Error(who, f.Left(who))
			}
		}
		out, at := f.Gate().Out()
		if len(f.Gate().Log()) != 0 || len(out) != 0 || len(at) != 0 || f.Gate().Book(2).Shard != 2 || f.Gate().Book(3).Shard != 0 {
			t.Error(f.Gate().Log(), out, at)
		}
		if f.Gate().Do(workers, kill) != nil || f.Gate().Do(workers-1, kill) == nil {
			t.Error("not a Gate of", workers)
		}
	}
}

// P12.1: the example that the document writes out: a worker with two messages; and all that comes behind.
func TestExample(t *testing.T) {
	f := begin(t, config(1), [][]wire.Msg{{order(0, 2, 1), order(0, 3, 2)}})
	if f.Left(0) != 2 || f.Gate().Cells().Time() != twinOf(config(1), make([][]wire.Msg, 1)).gate.Cells().Time() {
		t.Error("a message is begun ahead of a Pick:", f.Left(0))
	}
	time := f.Gate().Cells().Time()
	if !f.Pick(0) || f.Left(0) != 1 {
		t.Error(f.Left(0))
	}
	if l := f.Gate().Log(); f.Gate().Cells().Time() != time+1 || len(l) != 1 || l[0].Begin != time || l[0].End != 0 {
		t.Error("a Pick begins a message, and makes a Step:", l)
	}
	for f.Gate().Log()[0].End == 0 {
		if !f.Pick(0) || f.Left(0) != 1 || len(f.Gate().Log()) != 1 {
			t.Fatal("it goes on with what it does:", f.Left(0))
		}
	}
	if !f.Pick(0) || f.Left(0) != 0 || len(f.Gate().Log()) != 2 {
		t.Error("it begins the next one:", f.Left(0))
	}
	for f.Gate().Log()[1].End == 0 {
		if !f.Pick(0) {
			t.Fatal("it does something yet")
		}
	}
	time = f.Gate().Cells().Time()
	if f.Pick(0) || f.Left(0) != 0 || f.Gate().Cells().Time() != time || len(f.Gate().Log()) != 2 {
		t.Error("there is nothing to step any more")
	}
	l := f.Gate().Log()
	if l[0].Answer != (model.Answer{Id: 0}) || l[1].Answer != (model.Answer{Id: 1}) || f.Gate().Used(0) != 50 {
		t.Errorf("%+v", l)
	}
}

// P12.1, P1: a nil Floor, and such as New hasn't made: nil, false, -1, 0.
func TestNilAndZeroFloor(t *testing.T) {
	for name, f := range map[string]*floor.Floor{"nil": nil, "zero": {}} {
		f.Run(nil)
		f.Run([]int{0, 1, -1, math.MaxInt, math.MinInt})
		for _, n := range []int{0, 1, -1, 7, math.MaxInt, math.MinInt} {
			if f.Gate() != nil || f.Pick(n) || f.Rest(n) != -1 || f.Left(n) != 0 {
				t.Error(name, n)
			}
		}
	}
}

// P12.1, P1: Left of no such worker.
func TestNoSuchWorker(t *testing.T) {
	for workers := 1; workers <= api.MaxWorkers; workers++ {
		l := make([][]wire.Msg, workers)
		for who := range l {
			l[who] = make([]wire.Msg, 3)
		}
		f := begin(t, config(1), l)
		for _, who := range []int{-1, -workers, workers, workers + 1, 8, 9, 64, math.MaxInt, math.MinInt} {
			if f.Left(who) != 0 {
				t.Errorf("%d of %d: %d", who, workers, f.Left(who))
			}
		}
	}
}

// P12.1: the worker of a pick: k mod how many there are, k as a number of 64 bits without a sign.
func TestWhoIsPicked(t *testing.T) {
	for _, w := range []struct{ workers, k, who int }{
		{1, 0, 0}, {1, -1, 0}, {1, math.MinInt, 0}, {2, 1, 1}, {2, 3, 1}, {3, 3, 0}, {3, 5, 2}, {8, 8, 0}, {8, 15, 7},
		// 2^64 - 1 is a multiple of 3, 5 and 15; 2^63 leaves 2 of 3, 3 of 5, 1 of 7.
		{2, -1, 1}, {3, -1, 0}, {3, -2, 2}, {3, -3, 1}, {5, -1, 0}, {6, -1, 3}, {7, -1, 1}, {8, -1, 7}, {8, -8, 0},
		{3, math.MinInt, 2}, {5, math.MinInt, 3}, {7, math.MinInt, 1}, {8, math.MinInt, 0}, {3, math.MaxInt, 1}, {7, math.MaxInt, 0}, {8, math.MaxInt, 7},
	} {
		l := make([][]wire.Msg, w.workers)
		for who := range l {
			l[who] = []wire.Msg{order(0, 1, int64(who))}
		}
		f := begin(t, config(1), l)
		if !f.Pick(w.k) {
			t.Errorf("%d of %d: nothing to step", w.k, w.workers)
		}
		for who := range l {
			if left := f.Left(who); (left == 0) != (who == w.who) {
				t.Errorf("%d of %d: Left of %d: %d; want %d to begin", w.k, w.workers, who, left, w.who)
			}
		}
	}
}

// P12.1: each Pick, of any number, is as the chapter's words say: who goes on, by what, and what is answered.
func TestPick(t *testing.T) {
	r := rand.New(rand.NewSource(1))
	met := map[bool]int{}
	for range 120 {
		c, l := config(1+r.Intn(4)), anyLists(r, 1+r.Intn(8), 5)
		f, w := begin(t, c, l), twinOf(c, l)
		for range r.Intn(700) {
			k := anyPick(r)
			got, want := f.Pick(k), w.pick(k)
			if got != want {
				t.Fatalf("Pick of %d: %v; want %v", k, got, want)
			}
			met[got]++
			w.same(t, f)
		}
	}
	if met[true] < 5000 || met[false] < 5000 {
		t.Error("hardly met:", met)
	}
}

// P12.1: Run is Picks, one behind the other; its numbers stay as they are.
func TestRun(t *testing.T) {
	r := rand.New(rand.NewSource(2))
	for range 200 {
		c, l := config(1+r.Intn(4)), anyLists(r, 1+r.Intn(8), 4)
		f, w := begin(t, c, l), twinOf(c, l)
		for range 5 {
			picks := anyPicks(r, r.Intn(200))
			was := slices.Clone(picks)
			f.Run(picks)
			if !slices.Equal(picks, was) {
				t.Fatal("what was handed in is changed")
			}
			for _, k := range picks {
				w.pick(k)
			}
			w.same(t, f)
			f.Run(nil)
			f.Run([]int{})
			w.same(t, f)
		}
	}
}

// P12.1: Rest, of any number, from anywhere, is as the chapter's words say: rounds of Picks from 0 on, and how many.
func TestRest(t *testing.T) {
	r := rand.New(rand.NewSource(3))
	met := map[bool]int{}
	for range 300 {
		c, l := config(1+r.Intn(4)), anyLists(r, 1+r.Intn(8), 4)
		f, w := begin(t, c, l), twinOf(c, l)
		for !w.done() {
			f.Run([]int{3})
			w.pick(3)
			rounds := r.Intn(60) - 5
			got, want := f.Rest(rounds), w.rest(rounds)
			if got != want {
				t.Fatalf("Rest of %d: %d; want %d", rounds, got, want)
			}
			met[got > 0]++
			w.same(t, f)
		}
	}
	if met[true] < 100 || met[false] < 100 {
		t.Error("hardly met:", met)
	}
}

// P12.1: Rest looks ahead of each round and behind the last one: just enough rounds are enough, and one less isn't.
func TestRestAtItsEdge(t *testing.T) {
	r := rand.New(rand.NewSource(4))
	for range 200 {
		c, l := config(1+r.Intn(4)), anyLists(r, 1+r.Intn(8), 4)
		l[0] = append(l[0], order(0, 1, 9)) // so that there is something to do
		need := twinOf(c, l).rest(math.MaxInt)
		for _, rounds := range []int{need, need + 1, math.MaxInt} {
			f, w := begin(t, c, l), twinOf(c, l)
			if n := f.Rest(rounds); n != need {
				t.Fatalf("Rest of %d: %d; want %d", rounds, n, need)
			}
			w.rest(rounds)
			w.same(t, f)
		}
		f, w := begin(t, c, l), twinOf(c, l)
		for _, none := range []int{0, -1, -need, math.MinInt} {
			if n := f.Rest(none); n != -1 {
				t.Fatalf("Rest of %d: %d", none, n)
			}
			w.same(t, f)
		}
		if n := f.Rest(need - 1); n != -1 {
			t.Fatalf("Rest of %d: %d; it needs %d", need-1, n, need)
		}
		w.rest(need - 1)
		w.same(t, f)
		if n := f.Rest(1); n != 1 {
			t.Fatal(n)
		}
		w.rest(1)
		for _, rounds := range []int{0, 1, -1, 100, math.MaxInt, math.MinInt} {
			if n := f.Rest(rounds); n != 0 {
				t.Fatalf("nobody has anything to do; Rest of %d: %d", rounds, n)
			}
		}
		w.same(t, f)
	}
}

// P12.1: where nobody ever had anything to do.
func TestNothingToDo(t *testing.T) {
	for workers := 1; workers <= api.MaxWorkers; workers++ {
		f := begin(t, config(2), make([][]wire.Msg, workers))
		time := f.Gate().Cells().Time()
		for _, n := range []int{0, 1, -1, workers, 77, math.MaxInt, math.MinInt} {
			if f.Pick(n) || f.Rest(n) != 0 || f.Left(n) != 0 {
				t.Errorf("%d of %d", n, workers)
			}
		}
		f.Run([]int{0, 1, 2, -1})
		if f.Gate().Cells().Time() != time || len(f.Gate().Log()) != 0 {
			t.Error("something was done")
		}
	}
}

// P12.1: Gate answers the one that the workers use, each time the same.
func TestGate(t *testing.T) {
	f := begin(t, config(2), [][]wire.Msg{{order(0, 1, 1)}, {order(1, 1, 1)}})
	g := f.Gate()
	if f.Rest(1000) < 0 || f.Gate() != g || len(g.Log()) != 2 || g.Used(0) != 20 {
		t.Error(g.Log())
	}
}

// P1: whoever was handed the Gate may let a worker do something else: then there is nothing to step for it, what it has
// to do stays, and a Rest of any number ends; when that is over the worker goes on.
func TestOthersAtTheGate(t *testing.T) {
	for _, alone := range []bool{true, false} {
		l := [][]wire.Msg{{order(0, 1, 1), order(0, 1, 2)}, {order(1, 1, 1)}}
		if alone {
			l[1] = nil
		}
		f := begin(t, config(2), l)
		a := f.Gate().Do(0, wire.Msg{Kind: wire.Ack})
		if a == nil || f.Pick(0) || f.Left(0) != 2 {
			t.Fatal("the message is begun beside another one:", f.Left(0))
		}
		for _, rounds := range []int{0, 1, 50, 1 << 40, math.MaxInt} {
			if n := f.Rest(rounds); n != -1 || f.Left(0) != 2 {
				t.Fatalf("Rest of %d: %d, Left %d", rounds, n, f.Left(0))
			}
		}
		if f.Left(1) != 0 {
			t.Error("the other one doesn't go on:", f.Left(1))
		}
		for !a.Step() {
		}
		if f.Rest(1000) < 1 || f.Left(0) != 0 || f.Gate().Used(0) != int64(10*(2+len(l[1]))) {
			t.Error("it doesn't go on:", f.Gate().Log())
		}
		sound(t, f, config(2), 2)
	}
}

// sound holds the Log, and what went out, against layer 10.
func sound(t testing.TB, f *floor.Floor, c rules.Config, workers int) {
	t.Helper()
	l := f.Gate().Log()
	out, at := f.Gate().Out()
	if !hist.Right(workers, l) {
		t.Fatalf("the Log isn't Right: %+v", l)
	}
	if n := hist.Check(c, workers, l); n != -1 {
		t.Fatalf("%+v isn't answered as by the Model", l[n])
	}
	if !hist.Queue(c, workers, l, out) || len(at) != len(out) {
		t.Fatalf("what went out isn't what the Model lets: %v, at %v", out, at)
	}
}

// begun holds the Log against the lists: each worker's messages are there, in order, but those that are left.
func begun(t testing.TB, f *floor.Floor, l [][]wire.Msg) {
	t.Helper()
	got := make([][]wire.Msg, len(l))
	for _, e := range f.Gate().Log() {
		if !e.Op.Sweep {
			got[e.Who] = append(got[e.Who], e.Op.Msg)
		}
	}
	for who := range l {
		if want := l[who][:len(l[who])-f.Left(who)]; !slices.Equal(got[who], want) {
			t.Fatalf("the worker %d did %+v; want %+v", who, got[who], want)
		}
	}
}

// rest holds a Floor against P12.3: behind so many rounds all is over, and nothing can be stepped any more.
func rest(t testing.TB, f *floor.Floor, l [][]wire.Msg) {
	t.Helper()
	most := count(l)*gate.Bound() + 1
	if n := f.Rest(most); n < 0 || n > most {
		t.Fatalf("Rest of %d: %d", most, n)
	}
	time := f.Gate().Cells().Time()
	for who := range l {
		if f.Left(who) != 0 || f.Pick(who) {
			t.Fatalf("the worker %d has something to do", who)
		}
	}
	for _, e := range f.Gate().Log() {
		if e.Mark == 0 || e.End == 0 {
			t.Fatalf("%+v isn't over", e)
		}
	}
	if f.Gate().Cells().Time() != time || f.Rest(0) != 0 {
		t.Fatal("it goes on behind its end")
	}
}

// whole lets a Floor be picked at will, holds it against layer 10 on its way, and lets it rest.
func whole(t testing.TB, r *rand.Rand, c rules.Config, l [][]wire.Msg, met map[[2]int]int) {
	t.Helper()
	f := begin(t, c, l)
	for range r.Intn(8) {
		f.Run(anyPicks(r, r.Intn(30*len(l))))
		if r.Intn(3) == 0 { // one of them goes on alone, till it has to wait
			k := anyPick(r)
			for range r.Intn(60) {
				f.Pick(k)
			}
		}
		sound(t, f, c, len(l))
		begun(t, f, l)
	}
	rest(t, f, l)
	sound(t, f, c, len(l))
	begun(t, f, l)
	for _, e := range f.Gate().Log() {
		met[[2]int{e.Op.Msg.Kind, int(e.Answer.Code)}]++
	}
}

// P12.2, P12.3: whatever is done, whatever is picked.
func TestWhateverIsPicked(t *testing.T) {
	r := rand.New(rand.NewSource(5))
	met := map[[2]int]int{}
	for range 500 {
		whole(t, r, config(1+r.Intn(4)), anyLists(r, 1+r.Intn(8), 12), met)
	}
	for _, k := range [][2]int{
		{wire.Order, int(api.OK)}, {wire.Order, int(api.Killed)}, {wire.Order, int(api.Trader)}, {wire.Order, int(api.Firm)}, {wire.Order, int(api.Full)}, {wire.Order, int(api.Duplicate)}, {wire.Order, int(api.Malformed)},
		{wire.Cancel, int(api.OK)}, {wire.Fill, int(api.OK)}, {wire.Ack, int(api.OK)}, {wire.Kill, int(api.OK)}, {wire.Rearm, int(api.OK)}, {wire.Rearm, int(api.State)}, {wire.Limit, int(api.OK)}, {wire.Limit, int(api.Node)},
	} {
		if met[k] < 20 {
			t.Error("hardly met:", k[0], api.Code(k[1]).Word(), met[k])
		}
	}
}

// P12.3: each worker stopped at any of its Picks, with what it has then taken, and all the others go on.
func TestStoppedAnywhere(t *testing.T) {
	l := [][]wire.Msg{{order(0, 2, 1), order(1, 2, 1), {Kind: wire.Fill, Id: 0, Qty: 1}, kill, rearm}, {order(0, 3, 2), kill, order(3, 1, 1)}, {rearm, {Kind: wire.Limit, Node: 3, Most: 50}, order(2, 1, 1)}}
	for i := range 60 {
		for j := range 20 {
			f := begin(t, config(2), l)
			for range i {
				f.Pick(0)
			}
			for range j {
				f.Run([]int{1, 2, 1})
			}
			sound(t, f, config(2), 3)
			rest(t, f, l)
			sound(t, f, config(2), 3)
			begun(t, f, l)
		}
	}
}

// P12.3: the longest acts there are: Kills of all shards, all full, by eight workers at once.
func TestLongest(t *testing.T) {
	c := roomy(4)
	l := [][]wire.Msg{nil, {kill}, {kill, rearm}, {kill}, {rearm, kill}, {kill}, {kill}, {kill, kill}}
	for n := range 4 * api.MaxTable {
		l[0] = append(l[0], order(n%4, 1, int64(n)))
	}
	l[0] = append(l[0], kill)
	f := begin(t, c, l)
	for f.Left(0) > 0 { // all orders come, ahead of the first Kill
		f.Pick(0)
	}
	rest(t, f, l)
	sound(t, f, c, 8)
	begun(t, f, l)
	if out, _ := f.Gate().Out(); len(out) != 2*4*api.MaxTable {
		t.Error(len(out))
	}
}

// P12.3: of no messages one round is enough; of Picks alone, in turn, as many as there are workers are a round.
func TestRoundsOfPicks(t *testing.T) {
	for workers := 1; workers <= api.MaxWorkers; workers++ {
		rest(t, begin(t, config(1), make([][]wire.Msg, workers)), make([][]wire.Msg, workers))
		l := make([][]wire.Msg, workers)
		for who := range l {
			l[who] = []wire.Msg{order(who%4, 1, int64(who)), kill}
		}
		f, g := begin(t, config(2), l), begin(t, config(2), l)
		for n := range f.Rest(math.MaxInt) * workers {
			g.Pick(n)
		}
		if !sameGates(f.Gate(), g.Gate()) || g.Rest(0) != 0 {
			t.Errorf("%d workers: %+v; want %+v", workers, g.Gate().Log(), f.Gate().Log())
		}
	}
}

// P6: one worker's answers, and what goes out, are the Model's, however it is picked.
func TestOneWorker(t *testing.T) {
	r := rand.New(rand.NewSource(6))
	for range 100 {
		c, l := config(1+r.Intn(4)), anyLists(r, 1, 60)
		f := begin(t, c, l)
		f.Run(anyPicks(r, r.Intn(200)))
		rest(t, f, l)
		m, _ := model.Begin(c)
		var went []model.Out
		for _, e := range f.Gate().Log() {
			a, out := m.Do(e.Op)
			if a != e.Answer {
				t.Fatalf("%+v; want %+v", e, a)
			}
			went = append(went, out...)
		}
		if out, _ := f.Gate().Out(); !slices.Equal(out, went) {
			t.Fatalf("%v; want %v", out, went)
		}
	}
}

// Rule 4: what is handed in isn't changed, its spare room neither, and may be changed later.
func TestNothingIsKept(t *testing.T) {
	r := rand.New(rand.NewSource(7))
	spare := order(77, 7, 7)
	for range 50 {
		c, l, picks := config(2), anyLists(r, 3, 8), anyPicks(r, r.Intn(30))
		given := make([][]wire.Msg, 3, 4)
		for who := range l {
			given[who] = append(slices.Clone(l[who]), spare)[:len(l[who])]
		}
		f, w := begin(t, c, given), twinOf(config(2), l)
		f.Run(picks)
		for _, k := range picks {
			w.pick(k)
		}
		for who := range l {
			if !slices.Equal(given[who], l[who]) || given[who][:len(l[who])+1][len(l[who])] != spare || given[:4][3] != nil {
				t.Fatalf("what was handed in is changed: %+v; it was %+v", given[who], l[who])
			}
			clear(given[who])
		}
		clear(given)
		clear(picks)
		clear(c.Nodes)
		clear(c.Accounts)
		clear(c.Symbols)
		w.same(t, f)
		if got, want := f.Rest(math.MaxInt), w.rest(math.MaxInt); got != want {
			t.Fatalf("Rest: %d; want %d", got, want)
		}
		w.same(t, f)
	}
}

// Rule 5: Floors share nothing with one another, also those of one Config and of the same lists; nor do two workers that
// were given one list.
func TestFloorsApart(t *testing.T) {
	one := []wire.Msg{order(0, 1, 1), order(1, 1, 2), kill, rearm}
	l := [][]wire.Msg{one, one, one[:2]}
	c := config(2)
	f, g := begin(t, c, l), begin(t, c, l)
	for range 3 {
		f.Run([]int{0, 0, 0, 1})
		if g.Left(0) != 4 || g.Left(1) != 4 || g.Left(2) != 2 || len(g.Gate().Log()) != 0 || f.Gate() == g.Gate() {
			t.Fatal("what one does is to be seen in the other")
		}
	}
	rest(t, f, l)
	begun(t, f, l)
	if w := twinOf(c, l); g.Rest(math.MaxInt) != w.rest(math.MaxInt) || !sameGates(g.Gate(), w.gate) {
		t.Errorf("%+v", g.Gate().Log())
	}
}

// FuzzFloor goes on from the seeds by: go test -fuzz FuzzFloor ./floor
func FuzzFloor(f *testing.F) {
	f.Add(int64(1), uint8(2), uint8(3), []byte{0, 0, 0, 1, 1, 255, 254, 3, 0, 0, 77})
	f.Add(int64(2), uint8(1), uint8(7), []byte("whatever is picked, the Gate's Log and Out are such that layer 10 has nothing against them"))
	f.Fuzz(func(t *testing.T, seed int64, shards, workers uint8, picks []byte) {
		r := rand.New(rand.NewSource(seed))
		c, l := config(1+int(shards%4)), anyLists(r, 1+int(workers%8), 9)
		fl, w := begin(t, c, l), twinOf(c, l)
		for _, b := range picks[:min(len(picks), 1000)] {
			if k := int(int8(b)); fl.Pick(k) != w.pick(k) {
				t.Fatalf("Pick of %d", k)
			}
		}
		w.same(t, fl)
		sound(t, fl, c, len(l))
		rest(t, fl, l)
		sound(t, fl, c, len(l))
		begun(t, fl, l)
	})
}
