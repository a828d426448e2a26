package audit_test

import (
	"math"
	"math/rand"
	"slices"
	"testing"

	"stopgate/api"
	"stopgate/audit"
	"stopgate/hist"
	"stopgate/model"
	"stopgate/rules"
	"stopgate/tree"
	"stopgate/wire"
)

// isHeld is what the chapter says of Held: each time anew, by all Caps that ever were and when each order came.
func isHeld(c rules.Config, workers int, l []hist.Entry) bool {
	m, code := model.Begin(c)
	if code != api.OK || !hist.Right(workers, l) {
		return false
	}
	l = slices.Clone(l)
	slices.SortFunc(l, func(a, b hist.Entry) int { return a.Mark - b.Mark })
	var caps [][]tree.Node
	came := map[int]int{}
	for _, e := range l {
		if e.Mark == 0 {
			continue
		}
		m.Do(e.Op)
		caps = append(caps, m.Credit().Nodes)
		for shard := range c.Shards {
			for _, o := range m.Book(shard).Open {
				if _, known := came[o.Id]; !known {
					came[o.Id] = len(caps) - 1
				}
			}
		}
		for n := range c.Nodes {
			if !nodeHeld(c, m, n, caps, came) {
				return false
			}
		}
	}
	return true
}

func nodeHeld(c rules.Config, m *model.Model, n int, caps [][]tree.Node, came map[int]int) bool {
	sum, oldest := int64(0), len(caps)
	for shard := range c.Shards {
		for _, o := range m.Book(shard).Open {
			for up := c.Accounts[o.Order.Account]; up != -1; up = c.Nodes[up].Parent {
				if up == n {
					sum += o.Order.Price * o.Left
					oldest = min(oldest, came[o.Id])
				}
			}
		}
	}
	most := int64(0)
	for _, nodes := range caps[oldest:] {
		most = max(most, nodes[n].Cap)
	}
	return sum <= most
}

// P14.1: Held asks first whether the list is Right, and whether there is a Model.
func TestHeldOfWhat(t *testing.T) {
	l, _, _ := past(config(2), order(0, 5), order(2, 5), fill(0, 2))
	for workers, want := range map[int]bool{math.MinInt: false, -1: false, 0: false, 1: true, 2: true, 8: true, 9: false, math.MaxInt: false} {
		if audit.Held(config(2), workers, l) != want || audit.Held(config(2), workers, nil) != want {
			t.Error(workers)
		}
	}
	for i, spoil := range []func(l []hist.Entry){
		func(l []hist.Entry) { l[2].Who = 1 },
		func(l []hist.Entry) { l[2].Who = -1 },
		func(l []hist.Entry) { l[2].Begin = -1 },
		func(l []hist.Entry) { l[2].Mark = l[2].Begin },
		func(l []hist.Entry) { l[2].Mark = l[0].Mark },
		func(l []hist.Entry) { l[2].End = l[2].Mark - 1 },
		func(l []hist.Entry) { l[2].Mark = 0 },
	} {
		bad := slices.Clone(l)
		if spoil(bad); audit.Held(config(2), 1, bad) {
			t.Error(i)
		}
	}
	for i, spoil := range []func(c *rules.Config){
		func(c *rules.Config) { c.Shards = 0 }, func(c *rules.Config) { c.Shards = 5 }, func(c *rules.Config) { c.Nodes[4].Parent = 5 },
		func(c *rules.Config) { c.Accounts[0] = 5 }, func(c *rules.Config) { c.Symbols = nil }, func(c *rules.Config) { *c = rules.Config{} },
	} {
		c := config(2)
		if spoil(&c); audit.Held(c, 1, l) || audit.Held(c, 1, nil) {
			t.Error(i)
		}
	}
}

// P14.1: lists of which each is Held, but wouldn't be by another Cap, another order's time, or another sum.
func TestHeld(t *testing.T) {
	for i, ops := range [][]model.Op{
		{},
		{order(0, 12)},
		// A Cap that was lowered counts as it was when the order came, and since.
		{order(0, 12), limit(3, 0), limit(1, 5), limit(0, 1)},
		{order(0, 12), limit(3, 500), limit(3, 10)},
		{order(0, 5), limit(3, 500), order(0, 14), limit(3, 10), limit(1, 10), limit(0, 10)},
		{order(0, 5), limit(3, 60), order(0, 1), limit(3, 10), fill(0, 5)},
		// The oldest went: it is the next one's time.
		{order(0, 5), order(0, 7), fill(0, 5), limit(3, 20), fill(1, 4)},
		{limit(3, 500), order(0, 5), limit(3, 60), cancel(0), ack(0), order(0, 6), limit(3, 0)},
		{order(0, 5), fill(0, 5), limit(3, 0), limit(3, 40), order(0, 4)},
		// What is left counts, not what came; what was asked to be cancelled is open yet.
		{order(0, 12), fill(0, 11), order(0, 11), fill(1, 10), order(0, 10)},
		{order(0, 12), cancel(0), order(0, 1), ack(0), order(0, 12)},
		// Others' orders don't count: under node 3 are accounts 0 and 3, under 4 account 1, under 2 account 2.
		{order(0, 11), order(1, 9), order(2, 10), limit(4, 90), limit(2, 100)},
		{order(3, 6), order(0, 6), order(1, 8), order(2, 10)},
		{order(2, 15), order(1, 11), limit(2, 0), limit(4, 0), limit(0, 0)},
		// Refused ones don't count.
		{order(0, 13), order(0, 12), order(3, 1), order(9, 1), order(0, -1)},
		{kill(), order(0, 12), rearm(), order(0, 12), kill(), sweep(0, 1), sweep(1, 0), sweep(9, 9), order(0, 1), limit(3, 5)},
	} {
		for shards := 1; shards <= 4; shards++ {
			// Of more shards Ids are others', so some of it is refused.
			l, _, _ := past(config(shards), ops...)
			if !audit.Held(config(shards), 1, l) || !isHeld(config(shards), 1, l) {
				t.Error(i, shards)
			}
		}
	}
}

// P14.1: the Entries are done by their Marks, wherever they stand, and whatever was answered; those without one aren't.
func TestHeldByMarks(t *testing.T) {
	c := config(1)
	for _, window := range []int{0, 4} {
		c.Window = window
		l, _, _ := past(c, order(0, 12), limit(3, 60), fill(0, 7), order(0, 1), limit(3, 10), limit(3, 200), order(3, 8), limit(0, 20))
		r := rand.New(rand.NewSource(1))
		for range 50 {
			r.Shuffle(len(l), func(i, j int) { l[i], l[j] = l[j], l[i] })
			if !audit.Held(c, 1, l) {
				t.Fatalf("%+v", l)
			}
			l[r.Intn(len(l))].Answer = no(api.Code(r.Intn(19)))
			l[r.Intn(len(l))].End = 0
		}
	}
}

// anyOp is something that may be done; ids are those of which there are some.
func anyOp(r *rand.Rand, accounts, nodes int) model.Op {
	id := r.Intn(24)
	switch r.Intn(13) {
	case 0:
		return cancel(id)
	case 1, 2:
		return fill(id, int64(r.Intn(5)))
	case 3:
		return ack(id)
	case 4:
		return kill()
	case 5:
		return rearm()
	case 6, 7, 8:
		return limit(r.Intn(nodes+1), int64(r.Intn(400)-10))
	case 9:
		return sweep(r.Intn(5)-1, int64(r.Intn(3)))
	default:
		return order(r.Intn(accounts+1), int64(r.Intn(15)))
	}
}

// P14.1: any things, with any answers, in any places: Held by the chapter's words.
func TestHeldOfAny(t *testing.T) {
	r := rand.New(rand.NewSource(2))
	met := map[bool]int{}
	for range 1500 {
		c := config(1 + r.Intn(4))
		c.Window = r.Intn(2)
		var l []hist.Entry
		for i := range r.Intn(80) {
			e := hist.Entry{Who: r.Intn(2), Begin: i, Mark: i + 1, End: i + 1 + r.Intn(3), Op: anyOp(r, 4, 5), Answer: model.Answer{Id: r.Intn(3)}}
			e.Op.Msg.Order.Number = int64(i % 3)
			if e.Op.Msg.Kind != wire.Order || e.Op.Sweep {
				e.Op.Msg.Order = rules.Order{}
			}
			switch r.Intn(30) {
			case 0:
				e.End = 0
			case 1:
				e.Mark, e.End = 0, 0
			}
			l = slices.Insert(l, r.Intn(len(l)+1), e)
		}
		if len(l) > 0 && r.Intn(4) == 0 {
			l[r.Intn(len(l))].Mark = 1 + r.Intn(80)
		}
		want := isHeld(c, 2, l)
		if got := audit.Held(c, 2, l); got != want {
			t.Fatalf("%v; want %v: %+v", got, want, l)
		}
		met[want]++
	}
	if met[true] < 300 || met[false] < 100 {
		t.Error("hardly met:", met)
	}
}

// P14.1, P1: the greatest worths that there are, under many firms: no sum goes round.
func TestHeldOfGreat(t *testing.T) {
	c := rules.Config{Shards: 1, Rate: 1000, Table: 64, Symbols: []rules.Symbol{{Price: api.MaxPrice, Qty: api.MaxQty, Worth: math.MaxInt64, Band: math.Inf(1)}}}
	for n := range api.MaxNodes {
		c.Nodes = append(c.Nodes, tree.Node{Parent: -1, Cap: api.MaxCap})
		c.Accounts = append(c.Accounts, n)
	}
	var ops []model.Op
	for account := range c.Accounts {
		for _, qty := range []int64{1 << 21, 1 << 21, 1} {
			ops = append(ops, model.Op{Msg: wire.Msg{Order: rules.Order{Account: account, Price: api.MaxPrice, Qty: qty}}})
		}
	}
	l, _, _ := past(c, append(ops, limit(5, 0), limit(31, 1), limit(0, api.MaxCap))...)
	for i, e := range l[:96] {
		if (e.Answer.Code == api.OK) != (i%3 < 2) {
			t.Fatal(i, e.Answer)
		}
	}
	if !audit.Held(c, 1, l) {
		t.Error("it isn't Held")
	}
}

// P14.1, P1: as many Entries as may be, with as many open orders as there may be.
func TestHeldOfMany(t *testing.T) {
	c := config(4)
	for n := range c.Nodes {
		c.Nodes[n].Cap = api.MaxCap
	}
	l := make([]hist.Entry, 65536)
	for i := range l {
		l[len(l)-1-i] = hist.Entry{Begin: i, Mark: i + 1, End: i + 1, Op: order(i%4, 1)}
		if i > 300 {
			l[len(l)-1-i].Op = limit(i%5, int64(i))
		}
	}
	if !audit.Held(c, 1, l) || audit.Held(c, 1, append(l, hist.Entry{})) {
		t.Error("of 65536, and one more")
	}
}

// P1: any numbers in all fields: Held and Check end, and don't panic.
func TestAnyNumbers(t *testing.T) {
	ends := []int{0, 1, -1, 2, math.MaxInt, math.MinInt}
	for _, a := range ends {
		for _, b := range ends {
			for _, k := range ends {
				for _, o := range []model.Op{
					{Msg: wire.Msg{Kind: a, Id: b, Qty: int64(k), Node: a, Most: int64(b)}}, {Sweep: true, Shard: a, Epoch: int64(b)},
					{Msg: wire.Msg{Order: rules.Order{Account: a, Symbol: b, Price: int64(k), Qty: int64(k)}}}, limit(a, int64(b)),
				} {
					e := hist.Entry{Begin: 1, Mark: 2, End: 3, Op: o, Answer: model.Answer{Code: api.Code(a), Id: b}}
					l := []hist.Entry{{Begin: 0, Mark: 1, End: 1, Op: order(0, 5)}, e, {Who: a, Begin: b, Mark: k, End: a, Op: o}}
					for n := range 4 {
						x := all{config: config(2), workers: 1 + n%2, list: l[:n], out: []model.Out{{}, {Kind: a, Id: b}}[:n/2], at: []int{k, a}[:n/2]}
						if got, want := x.check(), words(x); got != want {
							t.Fatalf("%q; want %q: %+v", got, want, x)
						}
					}
				}
			}
		}
	}
}
