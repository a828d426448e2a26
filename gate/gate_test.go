package gate_test

import (
	"math"
	"math/rand"
	"slices"
	"testing"

	"stopgate/api"
	"stopgate/book"
	"stopgate/gate"
	"stopgate/hist"
	"stopgate/model"
	"stopgate/rules"
	"stopgate/tree"
	"stopgate/wire"
)

// config is one of a firm, two desks and three traders, with accounts on nodes of each level.
func config(shards int) rules.Config {
	return rules.Config{
		Shards: shards, Window: 2, Rate: 1000, Table: 4,
		Nodes: []tree.Node{{Parent: -1, Cap: 901}, {Parent: 0, Cap: 502}, {Parent: 0, Cap: 603}, {Parent: 1, Cap: 304}, {Parent: 1, Cap: 405}, {Parent: 2, Cap: 356}},
		// Account 6's node is account 0's: both have one credit, though other numbers.
		Accounts: []int{3, 4, 5, 1, 0, 2, 3},
		Symbols:  []rules.Symbol{{Price: 10, Qty: 50, Worth: 450, Band: 0.5}, {Price: 100, Qty: 5, Worth: math.MaxInt64, Band: math.Inf(1)}},
	}
}

// wide is one of a single node, that refuses nothing.
func wide(shards int) rules.Config {
	return rules.Config{
		Shards: shards, Rate: 1000, Table: 64, Nodes: []tree.Node{{Parent: -1, Cap: api.MaxCap}}, Accounts: []int{0, 0, 0, 0},
		Symbols: []rules.Symbol{{Price: 10, Qty: api.MaxQty, Worth: math.MaxInt64, Band: math.Inf(1)}},
	}
}

func order(account int, qty, number int64) wire.Msg {
	return wire.Msg{Order: rules.Order{Account: account, Price: 10, Qty: qty, Number: number}}
}

func cancel(id int) wire.Msg          { return wire.Msg{Kind: 1, Id: id} }
func fill(id int, qty int64) wire.Msg { return wire.Msg{Kind: 2, Id: id, Qty: qty} }
func ack(id int) wire.Msg             { return wire.Msg{Kind: 3, Id: id} }
func kill() wire.Msg                  { return wire.Msg{Kind: 4} }
func rearm() wire.Msg                 { return wire.Msg{Kind: 5} }
func limit(node int, most int64) wire.Msg {
	return wire.Msg{Kind: 6, Node: node, Most: most}
}

func begin(t testing.TB, c rules.Config, workers int) *gate.Gate {
	t.Helper()
	g, code := gate.New(c, workers)
	if g == nil || code != api.OK {
		t.Fatalf("New of %+v: %v", c, code.Word())
	}
	return g
}

// do lets a worker do something, with nobody's steps between.
func do(t testing.TB, g *gate.Gate, who int, m wire.Msg) model.Answer {
	t.Helper()
	a := g.Do(who, m)
	if a == nil {
		t.Fatalf("worker %d can't do %+v", who, m)
	}
	for range gate.Bound() {
		if a.Step() {
			return a.Answer()
		}
	}
	t.Fatalf("%+v doesn't end", m)
	return model.Answer{}
}

func sameBook(a, b book.Book) bool {
	rows := slices.EqualFunc(a.Rows, b.Rows, func(r, s book.Row) bool {
		return slices.Equal(r.Numbers, s.Numbers) && r.Second == s.Second && r.Count == s.Count
	})
	return a.Shard == b.Shard && a.Came == b.Came && rows && slices.Equal(a.Open, b.Open)
}

// P11.1: how many rounds there are.
func TestBound(t *testing.T) {
	if n := gate.Bound(); n != 4096 {
		t.Error(n)
	}
}

// P11.1: New answers Malformed of workers that can't be, ahead of rules.Check's Code, and beside a Code nothing.
func TestNew(t *testing.T) {
	for i, spoil := range []func(c *rules.Config){
		func(c *rules.Config) {},
		func(c *rules.Config) { c.Shards = 0 },
		func(c *rules.Config) { c.Shards = 5 },
		func(c *rules.Config) { c.Window = 17 },
		func(c *rules.Config) { c.Table = 65 },
		func(c *rules.Config) { c.Nodes = nil },
		func(c *rules.Config) { c.Nodes = make([]tree.Node, 33) },
		func(c *rules.Config) { c.Nodes[0].Parent = 9 },
		func(c *rules.Config) { c.Nodes[0].Parent = 3 },
		func(c *rules.Config) { c.Nodes[2].Cap = -1 },
		func(c *rules.Config) { c.Accounts = nil },
		func(c *rules.Config) { c.Accounts[1] = 6 },
		func(c *rules.Config) { c.Symbols = nil },
		func(c *rules.Config) { c.Symbols[1].Band = math.NaN() },
		func(c *rules.Config) { *c = rules.Config{} },
	} {
		c := config(2)
		spoil(&c)
		for _, workers := range []int{1, 2, 8} {
			g, code := gate.New(c, workers)
			if want := rules.Check(c); code != want || (g != nil) != (want == api.OK) || (i == 0) != (want == api.OK) {
				t.Errorf("%d: %d workers: %v; want %v", i, workers, code.Word(), want.Word())
			}
		}
		for _, workers := range []int{0, -1, 9, math.MaxInt, math.MinInt} {
			if g, code := gate.New(c, workers); g != nil || code != api.Malformed {
				t.Errorf("%d: %d workers: %v", i, workers, code.Word())
			}
		}
	}
}

// P11.1: of a new Gate nothing was done, nothing is reserved, and each shard has its Book.
func TestNothingDone(t *testing.T) {
	for shards := 1; shards <= 4; shards++ {
		c := config(shards)
		g := begin(t, c, 3)
		out, at := g.Out()
		if len(g.Log()) != 0 || len(out) != 0 || len(at) != 0 || g.Cells() == nil {
			t.Error(g.Log(), out, at)
		}
		for shard := range shards {
			if b := g.Book(shard); !sameBook(b, book.Begin(c, shard)) {
				t.Errorf("%+v", b)
			}
		}
		for n := range c.Nodes {
			if g.Used(n) != 0 {
				t.Error(n, g.Used(n))
			}
		}
	}
}

// P11.1, P1: a nil Gate, and such as New hasn't made: nothing.
func TestNilAndZeroGate(t *testing.T) {
	for name, g := range map[string]*gate.Gate{"nil": nil, "zero": {}} {
		for _, n := range []int{0, 1, -1, 7, math.MaxInt, math.MinInt} {
			if g.Do(n, kill()) != nil || g.Do(n, wire.Msg{Kind: n}) != nil || g.Used(n) != 0 || !sameBook(g.Book(n), book.Book{}) {
				t.Error(name, n)
			}
		}
		if out, at := g.Out(); len(g.Log()) != 0 || len(out) != 0 || len(at) != 0 || g.Cells() != nil {
			t.Error(name, g.Log(), out, at)
		}
	}
}

// P11.1, P1: a nil Act, and such as Do hasn't made: over, without an answer.
func TestNilAndZeroAct(t *testing.T) {
	for name, a := range map[string]*gate.Act{"nil": nil, "zero": {}} {
		for range 3 {
			if !a.Step() || !a.Over() || a.Answer() != (model.Answer{}) {
				t.Error(name)
			}
		}
	}
}

// P11.1, P1: Used and Book of what there isn't.
func TestNoSuchPlaces(t *testing.T) {
	g := begin(t, config(2), 1)
	do(t, g, 0, order(0, 5, 1))
	time := g.Cells().Time()
	for _, n := range []int{-1, -2, -6, 6, 7, 65536, math.MaxInt, math.MinInt} {
		if g.Used(n) != 0 || !sameBook(g.Book(n), book.Book{}) {
			t.Error(n)
		}
	}
	if !sameBook(g.Book(2), book.Book{}) {
		t.Error("there is no third shard")
	}
	if g.Cells().Time() != time {
		t.Error("a look at what is reserved or open is no access")
	}
}

// P11.1: the example that the document writes out, and Orders that began ahead of the Kill's end, or were refused before.
func TestExample(t *testing.T) {
	g := begin(t, config(2), 2)
	if a := do(t, g, 0, kill()); a != (model.Answer{}) {
		t.Error(a)
	}
	for _, m := range []wire.Msg{order(0, 5, 1), order(0, 0, 1), order(7, 5, 1), order(0, 51, 1), order(0, 46, 1)} {
		if a := do(t, g, 1, m); a != (model.Answer{Code: api.Killed}) {
			t.Error(m, a)
		}
	}
	if a := do(t, g, 1, wire.Msg{Kind: 7}); a != (model.Answer{Code: api.Malformed}) {
		t.Error(a)
	}
	if a := do(t, g, 0, rearm()); a != (model.Answer{Id: 1}) {
		t.Error(a)
	}
	if a := do(t, g, 1, order(0, 5, 1)); a != (model.Answer{}) {
		t.Error(a)
	}
}

// P11.1: who may do something: a worker that there is, and that does nothing else.
func TestDo(t *testing.T) {
	for workers := 1; workers <= 8; workers++ {
		g := begin(t, config(2), workers)
		for _, who := range []int{-1, workers, workers + 1, 8, 9, math.MaxInt, math.MinInt} {
			if g.Do(who, kill()) != nil {
				t.Errorf("%d of %d", who, workers)
			}
		}
		var acts []*gate.Act
		for who := range workers {
			acts = append(acts, g.Do(who, order(0, 1, int64(who))))
		}
		for who, a := range acts {
			for !a.Over() {
				if g.Do(who, kill()) != nil {
					t.Fatalf("%d of %d does two things", who, workers)
				}
				a.Step()
			}
			// Of one that is over the worker may do the next thing; the others still can't.
			if b := g.Do(who, rearm()); b == nil || b == a || b.Over() {
				t.Fatalf("%d of %d can't go on", who, workers)
			}
			if next := who + 1; next < workers && g.Do(next, kill()) != nil {
				t.Fatalf("%d of %d does two things", next, workers)
			}
		}
		if l := g.Log(); len(l) != 2*workers {
			t.Errorf("what was nobody's is in the Log: %+v", l)
		}
	}
}

// P11.1: what is begun makes no access yet, goes on by one at most, and when it is over makes none any more.
func TestSteps(t *testing.T) {
	g := begin(t, config(2), 2)
	for _, m := range []wire.Msg{
		order(0, 5, 1), order(1, 5, 1), order(7, 1, 1), order(0, 5, 1), cancel(0), cancel(0), fill(1, 2), fill(1, 9), ack(0), ack(0), kill(), order(1, 1, 2), rearm(), rearm(), limit(0, 5), limit(9, 5), {Kind: -1},
	} {
		time := g.Cells().Time()
		a := g.Do(0, m)
		if a.Over() || a.Answer() != (model.Answer{}) || g.Cells().Time() != time {
			t.Fatalf("%+v: it is only begun", m)
		}
		for !a.Over() {
			if a.Answer() != (model.Answer{}) || g.Do(0, m) != nil {
				t.Fatalf("%+v: %+v: it isn't over", m, a.Answer())
			}
			time = g.Cells().Time()
			if over := a.Step(); over != a.Over() || g.Cells().Time() > time+1 {
				t.Fatalf("%+v: %v, %d", m, over, g.Cells().Time()-time)
			}
		}
		time = g.Cells().Time()
		log, answer := g.Log(), a.Answer()
		out, _ := g.Out()
		for range 3 {
			if !a.Step() || !a.Over() || a.Answer() != answer {
				t.Fatalf("%+v: it is over", m)
			}
		}
		if more, _ := g.Out(); g.Cells().Time() != time || !slices.Equal(g.Log(), log) || !slices.Equal(more, out) {
			t.Fatalf("%+v: it goes on behind its end", m)
		}
	}
}

// draw takes numbers off a script, and 0 where it is at its end.
type draw struct{ script []byte }

func (d *draw) take(n int) int {
	if len(d.script) == 0 {
		return 0
	}
	x := int(d.script[0])
	d.script = d.script[1:]
	return x % n
}

func newDraw(r *rand.Rand, n int) *draw {
	script := make([]byte, n)
	r.Read(script)
	return &draw{script}
}

func (d *draw) config() rules.Config {
	c := config(1 + d.take(4))
	c.Window, c.Rate, c.Table = d.take(4), 1+d.take(9), 1+d.take(6)
	c.Symbols[0].Worth = 80
	for i := range c.Nodes {
		c.Nodes[i].Cap = int64(50 * d.take(12))
	}
	for i := range c.Accounts {
		c.Accounts[i] = d.take(len(c.Nodes))
	}
	return c
}

// msg is any message, most of them such as have something to do.
func (d *draw) msg() wire.Msg {
	id := d.take(13)
	switch d.take(18) {
	case 0, 1:
		return cancel(id)
	case 2, 3:
		return fill(id, int64(d.take(5)))
	case 4, 5:
		return ack(id)
	case 6:
		return kill()
	case 7, 8:
		return rearm()
	case 9:
		return limit(d.take(7), int64(d.take(10)*d.take(100))<<(d.take(2)*53))
	case 10:
		return wire.Msg{Kind: d.take(9), Id: d.take(3), Qty: int64(d.take(3)), Node: d.take(2)}
	default:
		o := rules.Order{Account: d.take(8), Symbol: d.take(8) / 3, Sell: d.take(2) == 1, Qty: int64(d.take(8)), Number: int64(d.take(20)), Second: int64(d.take(9) / 8)}
		if o.Price = int64(4 + d.take(13)); o.Symbol == 1 {
			o.Price *= 10
		}
		return wire.Msg{Order: o}
	}
}

// agree: is all as a Model has it that did the same?
func agree(t testing.TB, g *gate.Gate, c rules.Config, m *model.Model) {
	t.Helper()
	for shard := range c.Shards {
		if got, want := g.Book(shard), m.Book(shard); !sameBook(got, want) {
			t.Fatalf("Book %d: %+v; want %+v", shard, got, want)
		}
	}
	for n, want := range m.Credit().Used {
		if got := g.Used(n); got != want {
			t.Fatalf("Used of %d: %d; want %d", n, got, want)
		}
	}
}

// entries is what is to be in the Log of something that was done alone, from begin to end.
func entries(t testing.TB, c rules.Config, m *model.Model, e hist.Entry, got []hist.Entry) []model.Out {
	t.Helper()
	a, out := m.Do(e.Op)
	e.Answer = a
	sweeps := e.Op.Msg == kill()
	if len(got) == 0 || sweeps != (len(got) == 1+c.Shards) || !sweeps && len(got) != 1 {
		t.Fatalf("%+v: %+v", e.Op, got)
	}
	e.Mark = got[0].Mark
	if got[0] != e || e.Mark <= e.Begin || e.Mark > e.End {
		t.Fatalf("%+v; want %+v", got[0], e)
	}
	last := e.Mark
	for shard, s := range got[1:] {
		o := model.Op{Sweep: true, Shard: shard, Epoch: int64(e.Answer.Id)}
		answer, more := m.Do(o)
		if s.Who != e.Who || s.Op != o || s.Answer != answer || s.Begin < last || s.Mark <= s.Begin || s.End < s.Mark || s.End > e.End {
			t.Fatalf("%+v, behind %d", s, last)
		}
		last, out = s.End, append(out, more...)
	}
	return out
}

// alone does all that the script says, one behind the other, by any workers, and holds it against a Model.
func alone(t testing.TB, d *draw, met map[[2]int]int) {
	t.Helper()
	c, workers := d.config(), 1+d.take(8)
	g := begin(t, c, workers)
	m, _ := model.Begin(c)
	var went []model.Out
	for len(d.script) > 0 {
		msg, who := d.msg(), d.take(workers)
		was, from := g.Log(), g.Cells().Time()
		a := do(t, g, who, msg)
		log, to := g.Log(), g.Cells().Time()
		if !slices.Equal(log[:len(was)], was) {
			t.Fatalf("%+v: what was done ahead is another one: %+v", msg, log)
		}
		let := entries(t, c, m, hist.Entry{Who: who, Begin: from, End: to, Op: model.Op{Msg: msg}}, log[len(was):])
		if a != log[len(was)].Answer {
			t.Fatalf("%+v: %+v; in the Log %+v", msg, a, log[len(was)].Answer)
		}
		went = append(went, let...)
		out, at := g.Out()
		if !slices.Equal(out, went) || len(at) != len(out) || !slices.IsSorted(at) {
			t.Fatalf("%+v: %v, %v; want %v", msg, out, at, went)
		}
		for _, n := range at[len(at)-len(let):] {
			if n <= log[len(was)].Mark || n > to {
				t.Fatalf("%+v: it went out at %d; it took effect at %d and ended at %d", msg, n, log[len(was)].Mark, to)
			}
		}
		agree(t, g, c, m)
		met[[2]int{msg.Kind, int(a.Code)}]++
	}
}

// enough: was each kind of message answered each Code that it may be?
func enough(t *testing.T, met map[[2]int]int) {
	t.Helper()
	for kind, codes := range [][]api.Code{
		{api.OK, api.Malformed, api.Killed, api.Account, api.Symbol, api.Size, api.Notional, api.Collar, api.Duplicate, api.Rate, api.Full, api.Trader, api.Desk, api.Firm},
		{api.OK, api.Malformed, api.Unknown, api.State},
		{api.OK, api.Malformed, api.Unknown, api.Over},
		{api.OK, api.Malformed, api.Unknown, api.State},
		{api.OK, api.Malformed},
		{api.OK, api.Malformed, api.State},
		{api.OK, api.Malformed, api.Node},
	} {
		for _, code := range codes {
			if n := met[[2]int{kind, int(code)}]; n < 20 {
				t.Error("hardly met:", kind, code.Word(), n)
			}
		}
	}
}

// P11.1, P6: what workers do one behind the other is just the Model's: the answers, what goes out, what is open and reserved.
func TestAlone(t *testing.T) {
	r := rand.New(rand.NewSource(1))
	met := map[[2]int]int{}
	for range 300 {
		alone(t, newDraw(r, 600), met)
	}
	enough(t, met)
}

// P11.1, P1: the least and the greatest numbers in all fields: each act ends, none panics, each is as the Model's.
func TestAnyNumbers(t *testing.T) {
	ends := []int64{0, 1, -1, 6, math.MaxInt64, math.MinInt64, 1 << 32, 1<<32 - 1, 1 << 40, 1 << 62, 65535}
	for _, c := range []rules.Config{config(3), wide(3)} {
		g := begin(t, c, 1)
		m, _ := model.Begin(c)
		both := func(msg wire.Msg) {
			t.Helper()
			want, _ := m.Do(model.Op{Msg: msg})
			if a := do(t, g, 0, msg); a != want {
				t.Fatalf("%+v: %+v; want %+v", msg, a, want)
			}
		}
		both(order(0, 1, 1))
		for _, x := range ends {
			for _, y := range ends {
				for kind := 1; kind < 8; kind++ {
					if kind != wire.Kill { // its Sweeps would be the Gate's alone
						both(wire.Msg{Kind: kind, Id: int(x), Qty: y})
						both(wire.Msg{Kind: kind, Id: int(x)})
						both(wire.Msg{Kind: kind, Node: int(x), Most: y})
					}
				}
				for _, z := range ends {
					both(wire.Msg{Order: rules.Order{Account: int(z), Symbol: int(z), Price: x, Qty: y, Number: z, Second: z}})
					both(wire.Msg{Order: rules.Order{Price: x, Qty: y, Number: z}})
				}
			}
		}
		agree(t, g, c, m)
	}
}

// P11.1: all that there is room for, and one more: no sum and no product goes round.
func TestGreatestWorth(t *testing.T) {
	g := begin(t, wide(1), 1)
	price := func(price, qty, number int64) wire.Msg {
		return wire.Msg{Order: rules.Order{Price: price, Qty: qty, Number: number}}
	}
	for i, w := range []struct {
		m    wire.Msg
		code api.Code
		used int64
	}{
		{price(1<<40, 1<<40, 1), api.Overflow, 0}, {price(1<<40, 1<<22+1, 1), api.Trader, 0}, {price(1<<40, 1<<22, 1), api.OK, 1 << 62},
		{price(1, 1, 1), api.Trader, 1 << 62}, {price(1<<40, 1<<22, 1), api.Trader, 1 << 62}, {limit(0, 0), api.OK, 1 << 62},
		{fill(0, math.MaxInt64), api.Over, 1 << 62}, {fill(0, 1), api.OK, 1<<62 - 1<<40}, {cancel(0), api.OK, 1<<62 - 1<<40},
		{limit(0, 1<<62), api.OK, 1<<62 - 1<<40}, {price(1, 1<<40, 2), api.OK, 1 << 62}, {ack(0), api.OK, 1 << 40}, {fill(1, 1<<40), api.OK, 0},
	} {
		if a := do(t, g, 0, w.m); a.Code != w.code || g.Used(0) != w.used {
			t.Errorf("%d: %v, %d", i, a.Code.Word(), g.Used(0))
		}
	}
}

// P1: whatever others do to the Cells, no Step panics, each makes one access at most, and what needn't wait ends.
func TestSpoiledCells(t *testing.T) {
	for _, v := range []int64{-1, 0, 1, math.MaxInt64, math.MinInt64, 1<<62 + 1} {
		g := begin(t, config(2), 2)
		do(t, g, 0, order(0, 5, 1))
		do(t, g, 0, order(1, 5, 1))
		for _, m := range []wire.Msg{order(0, 5, 2), fill(0, 1), cancel(1), ack(1), kill(), rearm(), limit(0, 5), kill()} {
			a := g.Do(0, m)
			for n := 0; !a.Over() && n < 3*gate.Bound(); n++ {
				for i := range some {
					g.Cells().Store(i, v)
					g.Cells().Free(0, i)
				}
				time := g.Cells().Time()
				if a.Step(); g.Cells().Time() > time+1 {
					t.Fatalf("%d: %+v: more than one access", v, m)
				}
			}
			if !a.Over() {
				t.Fatalf("%d: %+v doesn't end", v, m)
			}
		}
	}
}

// P11.6, rule 4: the Config isn't changed, its spare room neither, and may be changed later.
func TestConfigIsNotKept(t *testing.T) {
	c := config(2)
	nodes, accounts, symbols := append(c.Nodes, tree.Node{Cap: 55}), append(c.Accounts, 55), append(c.Symbols, rules.Symbol{Price: 55})
	c.Nodes, c.Accounts, c.Symbols = nodes[:len(c.Nodes)], accounts[:len(c.Accounts)], symbols[:len(c.Symbols)]
	wasNodes, wasAccounts, wasSymbols := slices.Clone(nodes), slices.Clone(accounts), slices.Clone(symbols)
	g := begin(t, c, 1)
	m, _ := model.Begin(config(2))
	l := []wire.Msg{order(0, 5, 1), limit(0, 800), limit(3, 200), order(1, 5, 1), kill(), rearm(), order(2, 5, 3), fill(0, 2)}
	play := func() {
		for _, msg := range l {
			want, _ := m.Do(model.Op{Msg: msg})
			if a := do(t, g, 0, msg); a != want {
				t.Errorf("%+v: %+v; want %+v", msg, a, want)
			}
			for shard := range c.Shards {
				if msg == kill() {
					m.Do(model.Op{Sweep: true, Shard: shard})
				}
			}
		}
	}
	play()
	if !slices.Equal(nodes, wasNodes) || !slices.Equal(accounts, wasAccounts) || !slices.Equal(symbols, wasSymbols) {
		t.Fatalf("what was handed in is changed: %+v", c)
	}
	clear(nodes)
	clear(symbols)
	for i := range accounts {
		accounts[i] = 5
	}
	l = []wire.Msg{order(0, 5, 7), order(6, 16, 8), order(3, 1, 1), limit(5, 9), order(2, 5, 4), cancel(2), ack(2)}
	play()
	agree(t, g, config(2), m)
}

// scribble spoils all that the answers of a Gate can reach, their spare room too.
func scribble(g *gate.Gate, shards int) {
	for shard := range shards {
		b := g.Book(shard)
		for _, r := range b.Rows {
			for j := range r.Numbers[:cap(r.Numbers)] {
				r.Numbers[:cap(r.Numbers)][j] = -77
			}
		}
		for i := range b.Rows[:cap(b.Rows)] {
			b.Rows[:cap(b.Rows)][i] = book.Row{Second: -77, Count: -77}
		}
		for i := range b.Open[:cap(b.Open)] {
			b.Open[:cap(b.Open)][i] = book.Entry{Id: -77, Left: -77}
		}
	}
	l := g.Log()
	for i := range l[:cap(l)] {
		l[:cap(l)][i] = hist.Entry{Who: -77, Begin: -77}
	}
	out, at := g.Out()
	for i := range out[:cap(out)] {
		out[:cap(out)][i] = model.Out{Kind: -77, Id: -77}
	}
	for i := range at[:cap(at)] {
		at[:cap(at)][i] = -77
	}
}

// answers is all that a Gate answers at a time.
type answers struct {
	log   []hist.Entry
	out   []model.Out
	at    []int
	books []book.Book
}

func answersOf(g *gate.Gate, shards int) answers {
	var s answers
	s.log = g.Log()
	s.out, s.at = g.Out()
	for shard := range shards {
		s.books = append(s.books, g.Book(shard))
	}
	return s
}

func (s answers) same(o answers) bool {
	return slices.Equal(s.log, o.log) && slices.Equal(s.out, o.out) && slices.Equal(s.at, o.at) && slices.EqualFunc(s.books, o.books, sameBook)
}

// P11.6: whoever changes an answer changes nothing of the Gate's, nor another answer; and what was answered stays.
func TestAnswersAreNew(t *testing.T) {
	r := rand.New(rand.NewSource(2))
	for range 30 {
		d := newDraw(r, 500)
		c := d.config()
		spoiled, left := begin(t, c, 2), begin(t, c, 2)
		var one, other []answers
		for len(d.script) > 0 {
			m := d.msg()
			if a, b := do(t, spoiled, 0, m), do(t, left, 0, m); a != b {
				t.Fatal(a, b)
			}
			// Each is asked twice: no two of these may be one memory.
			one, other = append(one, answersOf(left, c.Shards)), append(other, answersOf(left, c.Shards))
			if scribble(spoiled, c.Shards); !answersOf(spoiled, c.Shards).same(answersOf(left, c.Shards)) {
				t.Fatalf("%+v: a change of answers is to be seen", m)
			}
		}
		scribble(left, c.Shards)
		for i := range one {
			if !one[i].same(other[i]) {
				t.Fatalf("%d: %+v; then %+v", i, one[i], other[i])
			}
			clear(one[i].log)
			clear(one[i].out)
			clear(one[i].at)
			clear(one[i].books)
		}
	}
}

// P11.6: of one Book no two lists share.
func TestListsOfOneBook(t *testing.T) {
	g := begin(t, config(1), 1)
	for n := range int64(2) {
		for account := range 2 {
			do(t, g, 0, order(account, 1, n))
		}
	}
	for i := range 2 {
		b, was := g.Book(0), g.Book(0)
		l := b.Rows[i].Numbers
		for j := range l[:cap(l)] {
			l[:cap(l)][j] = -77
		}
		if !slices.Equal(b.Rows[1-i].Numbers, was.Rows[1-i].Numbers) || len(was.Rows[1-i].Numbers) != 2 {
			t.Error("Rows share their Numbers:", b.Rows)
		}
	}
}

// Rule 5: Gates share nothing with one another, also those of one Config.
func TestGatesApart(t *testing.T) {
	r := rand.New(rand.NewSource(3))
	d := newDraw(r, 800)
	c := d.config()
	var l []*gate.Gate
	var models []*model.Model
	for range 3 {
		m, _ := model.Begin(c)
		l, models = append(l, begin(t, c, 2)), append(models, m)
	}
	for len(d.script) > 0 {
		i, msg := d.take(2), d.msg()
		want, _ := models[i].Do(model.Op{Msg: msg})
		for shard := range c.Shards {
			if epoch, _ := models[i].Epoch(); msg == kill() {
				models[i].Do(model.Op{Sweep: true, Shard: shard, Epoch: epoch})
			}
		}
		if a := do(t, l[i], d.take(2), msg); a != want {
			t.Fatalf("%d: %+v: %+v; want %+v", i, msg, a, want)
		}
		for i := range l {
			agree(t, l[i], c, models[i])
		}
	}
	if l[0].Cells() == l[1].Cells() || len(l[2].Log()) != 0 || l[0].Cells() != l[0].Cells() {
		t.Error("each has Cells of its own")
	}
}
