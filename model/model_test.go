package model_test

import (
	"math"
	"math/rand"
	"slices"
	"testing"

	"stopgate/api"
	"stopgate/book"
	"stopgate/credit"
	"stopgate/model"
	"stopgate/rules"
	"stopgate/tree"
	"stopgate/wire"
)

// config is one of a firm, two desks and three traders, with accounts on nodes of each level.
func config(shards int) rules.Config {
	return rules.Config{
		Shards: shards, Window: 2, Rate: 3, Table: 4,
		Nodes: []tree.Node{{Parent: -1, Cap: 900}, {Parent: 0, Cap: 500}, {Parent: 0, Cap: 600}, {Parent: 1, Cap: 300}, {Parent: 1, Cap: 400}, {Parent: 2, Cap: 350}},
		// Account 6's node is account 0's: both have one credit, though other numbers.
		Accounts: []int{3, 4, 5, 1, 0, 2, 3},
		Symbols:  []rules.Symbol{{Price: 10, Qty: 50, Worth: 450, Band: 0.5}, {Price: 100, Qty: 5, Worth: math.MaxInt64, Band: math.Inf(1)}},
	}
}

// roomy is one of a single node and three accounts, in which all that is refused is refused by the Cap alone.
func roomy(most int64) rules.Config {
	return rules.Config{
		Shards: 1, Rate: 1000, Table: 64, Nodes: []tree.Node{{Parent: -1, Cap: most}}, Accounts: []int{0, 0, 0},
		Symbols: []rules.Symbol{{Price: 10, Qty: api.MaxQty, Worth: math.MaxInt64, Band: math.Inf(1)}},
	}
}

func clone(c rules.Config) rules.Config {
	c.Nodes, c.Accounts, c.Symbols = slices.Clone(c.Nodes), slices.Clone(c.Accounts), slices.Clone(c.Symbols)
	return c
}

func sameConfig(a, b rules.Config) bool {
	return a.Shards == b.Shards && a.Window == b.Window && a.Rate == b.Rate && a.Table == b.Table &&
		slices.Equal(a.Nodes, b.Nodes) && slices.Equal(a.Accounts, b.Accounts) && slices.Equal(a.Symbols, b.Symbols)
}

func sameBook(a, b book.Book) bool {
	rows := slices.EqualFunc(a.Rows, b.Rows, func(r, s book.Row) bool {
		return slices.Equal(r.Numbers, s.Numbers) && r.Second == s.Second && r.Count == s.Count
	})
	return a.Shard == b.Shard && a.Came == b.Came && rows && slices.Equal(a.Open, b.Open)
}

func cloneBook(b book.Book) book.Book {
	b.Open, b.Rows = slices.Clone(b.Open), slices.Clone(b.Rows)
	for i := range b.Rows {
		b.Rows[i].Numbers = slices.Clone(b.Rows[i].Numbers)
	}
	return b
}

func sameCredit(a, b credit.State) bool {
	return slices.Equal(a.Nodes, b.Nodes) && slices.Equal(a.Used, b.Used)
}

func cloneCredit(s credit.State) credit.State {
	return credit.State{Nodes: slices.Clone(s.Nodes), Used: slices.Clone(s.Used)}
}

// past is all orders that ever came, of all shards: each answer is worked out from them anew, without layers 4 and 7.
type past struct {
	c     rules.Config // its Nodes have the Caps of now
	came  []book.Entry // those that aren't open any more have State 0
	epoch int64
	off   bool
}

func (p *past) shard(account int) int { return account % p.c.Shards }

// of is what came of an account.
func (p *past) of(account int) []book.Entry {
	return slices.DeleteFunc(slices.Clone(p.came), func(e book.Entry) bool { return e.Order.Account != account })
}

// in is what came to a shard.
func (p *past) in(shard int) []book.Entry {
	return slices.DeleteFunc(slices.Clone(p.came), func(e book.Entry) bool { return p.shard(e.Order.Account) != shard })
}

func open(l []book.Entry) []book.Entry {
	return slices.DeleteFunc(l, func(e book.Entry) bool { return e.State == 0 })
}

func (p *past) row(account int) book.Row {
	var r book.Row
	l := p.of(account)
	for i, e := range l {
		if i >= len(l)-p.c.Window {
			r.Numbers = append(r.Numbers, e.Order.Number)
		}
		if last := l[len(l)-1].Order.Second; e.Order.Second == last {
			r.Second, r.Count = last, r.Count+1
		}
	}
	return r
}

func (p *past) book(shard int) book.Book {
	b := book.Book{Shard: shard, Came: len(p.in(shard)), Open: open(p.in(shard))}
	for account := range p.c.Accounts {
		// The Rows of other shards' accounts stay as they were at the beginning.
		if p.shard(account) == shard {
			b.Rows = append(b.Rows, p.row(account))
		} else {
			b.Rows = append(b.Rows, book.Row{})
		}
	}
	return b
}

// above is an account's node, and those that it hangs on.
func (p *past) above(account int) []int {
	var l []int
	for n := p.c.Accounts[account]; n != -1; n = p.c.Nodes[n].Parent {
		l = append(l, n)
	}
	return l
}

// under is what is open under a node: the sum of P9.2.
func (p *past) under(node int) uint64 {
	sum := uint64(0)
	for _, e := range p.came {
		if e.State != 0 && slices.Contains(p.above(e.Order.Account), node) {
			sum += uint64(e.Order.Price) * uint64(e.Left)
		}
	}
	return sum
}

func (p *past) credit() credit.State {
	s := credit.State{Nodes: slices.Clone(p.c.Nodes)}
	for n := range p.c.Nodes {
		s.Used = append(s.Used, int64(p.under(n)))
	}
	return s
}

// wrong is what is wrong with an order.
func (p *past) wrong(o rules.Order) api.Code {
	if p.off {
		return api.Killed
	}
	code, worth := rules.Look(p.c, o)
	if code != api.OK {
		return code
	}
	r := p.row(o.Account)
	switch {
	case slices.Contains(r.Numbers, o.Number):
		return api.Duplicate
	case o.Second < r.Second || o.Second == r.Second && r.Count >= p.c.Rate:
		return api.Rate
	case len(open(p.in(p.shard(o.Account)))) >= p.c.Table:
		return api.Full
	}
	for i, n := range p.above(o.Account) {
		if p.under(n)+uint64(worth) > uint64(p.c.Nodes[n].Cap) {
			return []api.Code{api.Trader, api.Desk, api.Firm}[i]
		}
	}
	return api.OK
}

func (p *past) order(o rules.Order) (model.Answer, []model.Out) {
	if code := p.wrong(o); code != api.OK {
		return model.Answer{Code: code}, nil
	}
	shard := p.shard(o.Account)
	id := shard + p.c.Shards*len(p.in(shard))
	p.came = append(p.came, book.Entry{Id: id, Order: o, Left: o.Qty, State: 1, Epoch: p.epoch})
	return model.Answer{Id: id}, []model.Out{{Kind: 0, Id: id}}
}

// at is the open order of an Id; nil: there is none.
func (p *past) at(id int) *book.Entry {
	for i := range p.came {
		if p.came[i].Id == id && p.came[i].State != 0 {
			return &p.came[i]
		}
	}
	return nil
}

func (p *past) cancel(id int) (model.Answer, []model.Out) {
	e := p.at(id)
	switch {
	case e == nil:
		return model.Answer{Code: api.Unknown}, nil
	case e.State == 2:
		return model.Answer{Code: api.State}, nil
	}
	e.State = 2
	return model.Answer{}, []model.Out{{Kind: 1, Id: id}}
}

func (p *past) fill(id int, qty int64) model.Answer {
	e := p.at(id)
	switch {
	case qty == 0:
		return model.Answer{Code: api.Malformed}
	case e == nil:
		return model.Answer{Code: api.Unknown}
	case e.Left < qty:
		return model.Answer{Code: api.Over}
	case e.Left == qty:
		e.State = 0
	}
	e.Left -= qty
	return model.Answer{}
}

func (p *past) ack(id int) model.Answer {
	e := p.at(id)
	switch {
	case e == nil:
		return model.Answer{Code: api.Unknown}
	case e.State == 1:
		return model.Answer{Code: api.State}
	}
	e.State = 0
	return model.Answer{}
}

func (p *past) sweep(shard int, epoch int64) (model.Answer, []model.Out) {
	if shard < 0 || shard >= p.c.Shards {
		return model.Answer{Code: api.Malformed}, nil
	}
	var out []model.Out
	for i, e := range p.came {
		if e.State == 1 && e.Epoch <= epoch && p.shard(e.Order.Account) == shard {
			p.came[i].State = 2
			out = append(out, model.Out{Kind: 1, Id: e.Id})
		}
	}
	return model.Answer{Id: len(out)}, out
}

func (p *past) rearm() model.Answer {
	if !p.off {
		return model.Answer{Code: api.State}
	}
	p.off = false
	p.epoch++
	return model.Answer{Id: int(p.epoch)}
}

func (p *past) limit(node int, most int64) model.Answer {
	if node >= len(p.c.Nodes) {
		return model.Answer{Code: api.Node}
	}
	if most > 1<<62 {
		return model.Answer{Code: api.Malformed}
	}
	p.c.Nodes[node].Cap = most
	return model.Answer{}
}

func (p *past) do(o model.Op) (model.Answer, []model.Out) {
	if o.Sweep {
		return p.sweep(o.Shard, o.Epoch)
	}
	if !wire.Right(o.Msg) {
		return model.Answer{Code: api.Malformed}, nil
	}
	switch m := o.Msg; m.Kind {
	case 0:
		return p.order(m.Order)
	case 1:
		return p.cancel(m.Id)
	case 2:
		return p.fill(m.Id, m.Qty), nil
	case 3:
		return p.ack(m.Id), nil
	case 4:
		p.off = true
		return model.Answer{Id: int(p.epoch)}, nil
	case 5:
		return p.rearm(), nil
	default:
		return p.limit(m.Node, m.Most), nil
	}
}

// sweepKind is the kind of a Sweep in what was met, beside those of messages.
const sweepKind = 7

// both is a Model beside its past.
type both struct {
	m   *model.Model
	p   past
	met map[[2]int]int // how often something of a kind was answered a Code
}

func begin(t *testing.T, c rules.Config) *both {
	t.Helper()
	m, code := model.Begin(c)
	if m == nil || code != api.OK {
		t.Fatalf("Begin of %+v: %v", c, code.Word())
	}
	b := &both{m: m, p: past{c: clone(c)}, met: map[[2]int]int{}}
	b.hold(t, "Begin")
	return b
}

// hold holds all that is to be seen against the past.
func (b *both) hold(t *testing.T, what any) {
	t.Helper()
	for shard := range b.p.c.Shards {
		if got, want := b.m.Book(shard), b.p.book(shard); !sameBook(got, want) {
			t.Fatalf("behind %+v: Book %d: %+v; want %+v", what, shard, got, want)
		}
	}
	if got, want := b.m.Credit(), b.p.credit(); !sameCredit(got, want) {
		t.Fatalf("behind %+v: Credit: %+v; want %+v", what, got, want)
	}
	if epoch, off := b.m.Epoch(); epoch != b.p.epoch || off != b.p.off {
		t.Fatalf("behind %+v: Epoch: %d, %v; want %d, %v", what, epoch, off, b.p.epoch, b.p.off)
	}
}

// op does o to both, and holds one against the other.
func (b *both) op(t *testing.T, o model.Op) (model.Answer, []model.Out) {
	t.Helper()
	a, out := b.m.Do(o)
	want, wantOut := b.p.do(o)
	if a != want || !slices.Equal(out, wantOut) {
		t.Fatalf("%+v: %v %d, %v; want %v %d, %v", o, a.Code.Word(), a.Id, out, want.Code.Word(), want.Id, wantOut)
	}
	kind := o.Msg.Kind
	if o.Sweep {
		kind = sweepKind
	}
	b.met[[2]int{kind, int(a.Code)}]++
	b.hold(t, o)
	return a, out
}

func (b *both) msg(t *testing.T, m wire.Msg) model.Answer {
	t.Helper()
	a, _ := b.op(t, model.Op{Msg: m})
	return a
}

func (b *both) sweep(t *testing.T, shard int, epoch int64) []model.Out {
	t.Helper()
	_, out := b.op(t, model.Op{Sweep: true, Shard: shard, Epoch: epoch})
	return out
}

func order(account int, price, qty, number, second int64) wire.Msg {
	return wire.Msg{Order: rules.Order{Account: account, Price: price, Qty: qty, Number: number, Second: second}}
}

func cancel(id int) wire.Msg          { return wire.Msg{Kind: 1, Id: id} }
func fill(id int, qty int64) wire.Msg { return wire.Msg{Kind: 2, Id: id, Qty: qty} }
func ack(id int) wire.Msg             { return wire.Msg{Kind: 3, Id: id} }
func kill() wire.Msg                  { return wire.Msg{Kind: 4} }
func rearm() wire.Msg                 { return wire.Msg{Kind: 5} }
func limit(node int, most int64) wire.Msg {
	return wire.Msg{Kind: 6, Node: node, Most: most}
}

// row is a message, and what is to be answered.
type row struct {
	m    wire.Msg
	code api.Code
	id   int
}

func (b *both) rows(t *testing.T, l []row) {
	t.Helper()
	for i, r := range l {
		if a := b.msg(t, r.m); a != (model.Answer{Code: r.code, Id: r.id}) {
			t.Fatalf("%d: %+v: %v %d; want %v %d", i, r.m, a.Code.Word(), a.Id, r.code.Word(), r.id)
		}
	}
}

// P9.1: the example that the document writes out.
func TestExample(t *testing.T) {
	b := begin(t, config(2))
	b.rows(t, []row{
		{kill(), api.OK, 0}, {order(0, 10, 5, 1, 0), api.Killed, 0}, {rearm(), api.OK, 1}, {order(0, 10, 5, 1, 0), api.OK, 0},
	})
}

// P9.1: the kinds are the numbers that the document says.
func TestKindsOfOuts(t *testing.T) {
	if model.New != 0 || model.Cancel != 1 {
		t.Error(model.New, model.Cancel)
	}
	b := begin(t, config(1))
	if _, out := b.op(t, model.Op{Msg: order(0, 10, 5, 1, 0)}); !slices.Equal(out, []model.Out{{Kind: 0, Id: 0}}) {
		t.Error(out)
	}
	if _, out := b.op(t, model.Op{Msg: cancel(0)}); !slices.Equal(out, []model.Out{{Kind: 1, Id: 0}}) {
		t.Error(out)
	}
}

// P9.1: Begin answers the Code of rules.Check, and beside one that isn't OK nothing.
func TestBegin(t *testing.T) {
	for i, spoil := range []func(c *rules.Config){
		func(c *rules.Config) {},
		func(c *rules.Config) { c.Shards = 0 },
		func(c *rules.Config) { c.Shards = 5 },
		func(c *rules.Config) { c.Window = -1 },
		func(c *rules.Config) { c.Rate = 0 },
		func(c *rules.Config) { c.Table = 65 },
		func(c *rules.Config) { c.Nodes = nil },
		func(c *rules.Config) { c.Nodes = make([]tree.Node, 33) },
		func(c *rules.Config) { c.Nodes[0].Parent = 9 },
		func(c *rules.Config) { c.Nodes[0].Parent = 3 },
		func(c *rules.Config) { c.Nodes[2].Cap = -1 },
		func(c *rules.Config) { c.Accounts = nil },
		func(c *rules.Config) { c.Accounts = make([]int, 33) },
		func(c *rules.Config) { c.Accounts[1] = 6 },
		func(c *rules.Config) { c.Symbols = nil },
		func(c *rules.Config) { c.Symbols[1].Price = 0 },
		func(c *rules.Config) { c.Symbols[1].Band = math.NaN() },
		func(c *rules.Config) { *c = rules.Config{} },
	} {
		c := config(2)
		spoil(&c)
		m, code := model.Begin(c)
		if want := rules.Check(c); code != want || (m != nil) != (want == api.OK) || (i == 0) != (want == api.OK) {
			t.Errorf("%d: %v, %v; want %v", i, m, code.Word(), want.Word())
		}
	}
	for _, shards := range []int{1, 2, 3, 4} {
		begin(t, config(shards))
	}
}

// P9.1: what is wrong with an order, the first of: the switch, the rules, the Book, the credit.
func TestCodesOfOrder(t *testing.T) {
	c := config(1)
	c.Table = 2
	c.Nodes[3].Cap, c.Nodes[1].Cap, c.Nodes[0].Cap = 100, 150, 200
	b := begin(t, c)
	b.rows(t, []row{
		{order(0, 10, 10, 5, 4), api.OK, 0},
		{order(0, 0, 10, 5, 4), api.Malformed, 0}, {order(7, 10, 10, 5, 4), api.Account, 0},
		{order(0, 10, 51, 5, 4), api.Size, 0}, {order(0, 10, 46, 5, 4), api.Notional, 0}, {order(0, 16, 10, 5, 4), api.Collar, 0},
		// The Book's ahead of the credit's: here the trader has no room.
		{order(0, 10, 10, 5, 4), api.Duplicate, 0}, {order(0, 10, 10, 6, 3), api.Rate, 0}, {order(0, 10, 1, 6, 4), api.Trader, 0},
		{order(6, 10, 1, 6, 4), api.Trader, 0}, // another account of the same node
		{order(1, 10, 5, 5, 0), api.OK, 1},
		{order(1, 10, 1, 6, 0), api.Full, 0}, // though the desk has no room
		{fill(0, 10), api.OK, 0},
		{order(0, 10, 10, 6, 4), api.OK, 2},
		{cancel(1), api.OK, 0}, {ack(1), api.OK, 0},
		{order(1, 10, 6, 6, 0), api.Desk, 0}, {order(1, 10, 5, 6, 0), api.OK, 3},
		{cancel(2), api.OK, 0}, {ack(2), api.OK, 0},
		{order(4, 10, 16, 6, 0), api.Trader, 0}, // of the firm's own node it is the first one
		{order(2, 10, 16, 6, 0), api.Firm, 0}, {order(2, 10, 15, 6, 0), api.OK, 4},
		{kill(), api.OK, 0},
		{order(0, 10, 1, 9, 9), api.Killed, 0}, {order(0, 0, 10, 5, 4), api.Killed, 0}, {order(7, 10, 10, 5, 4), api.Killed, 0},
		{order(2, 10, 1, 6, 0), api.Killed, 0}, {order(1, 10, 9, 8, 0), api.Killed, 0}, {order(0, -1, 1, 9, 9), api.Malformed, 0},
	})
}

// P9.1: a refused order leaves nothing: its number may be used again, its second had none more, nothing is reserved.
func TestRefusedOrderLeavesNothing(t *testing.T) {
	c := config(1)
	c.Rate, c.Window = 1, 2
	b := begin(t, c)
	b.rows(t, []row{
		{order(0, 10, 31, 1, 5), api.Trader, 0}, {order(0, 10, 30, 1, 5), api.OK, 0},
		{order(1, 10, 21, 1, 5), api.Desk, 0}, {order(1, 10, 20, 1, 5), api.OK, 1},
		{order(4, 10, 41, 1, 5), api.Trader, 0}, {order(4, 10, 40, 1, 5), api.OK, 2},
		{kill(), api.OK, 0}, {order(2, 10, 1, 1, 5), api.Killed, 0}, {rearm(), api.OK, 1},
		{limit(0, 910), api.OK, 0}, {order(2, 10, 1, 1, 5), api.OK, 3},
	})
}

// P9.1: each Id's shard is the one that it is of; Ids of orders that never came, or are done, are Unknown.
func TestShardsOfIds(t *testing.T) {
	for shards := 1; shards <= 4; shards++ {
		c := config(shards)
		c.Nodes = []tree.Node{{Parent: -1, Cap: api.MaxCap}}
		c.Accounts = make([]int, 8)
		b := begin(t, c)
		var ids []int
		for round := range int64(2) {
			for account := range shards {
				a := b.msg(t, order(account, 10, 4, round, 0))
				if a.Code != api.OK || a.Id != account+shards*int(round) {
					t.Fatalf("%d shards: %+v", shards, a)
				}
				ids = append(ids, a.Id)
			}
		}
		for _, id := range []int{2 * shards, 2*shards + 1, 100, 1<<32 - 1} {
			b.rows(t, []row{{cancel(id), api.Unknown, 0}, {fill(id, 1), api.Unknown, 0}, {fill(id, 0), api.Malformed, 0}, {ack(id), api.Unknown, 0}})
		}
		for _, id := range ids {
			b.rows(t, []row{
				{ack(id), api.State, 0}, {fill(id, 0), api.Malformed, 0}, {fill(id, 5), api.Over, 0}, {fill(id, 1), api.OK, 0},
				{fill(id, 4), api.Over, 0}, {cancel(id), api.OK, 0}, {cancel(id), api.State, 0}, {fill(id, 1), api.OK, 0},
			})
		}
		for i, id := range ids {
			if i%2 == 0 {
				b.rows(t, []row{{ack(id), api.OK, 0}})
			} else {
				b.rows(t, []row{{fill(id, 2), api.OK, 0}})
			}
			b.rows(t, []row{{ack(id), api.Unknown, 0}, {cancel(id), api.Unknown, 0}, {fill(id, 1), api.Unknown, 0}})
		}
	}
}

// P9.1: the switch, and the epoch, and in which one an order came.
func TestSwitch(t *testing.T) {
	b := begin(t, config(1))
	b.rows(t, []row{
		{rearm(), api.State, 0}, {order(0, 10, 1, 1, 0), api.OK, 0},
		{kill(), api.OK, 0}, {kill(), api.OK, 0}, {rearm(), api.OK, 1}, {rearm(), api.State, 0}, {order(0, 10, 1, 2, 0), api.OK, 1},
		{kill(), api.OK, 1}, {kill(), api.OK, 1}, {rearm(), api.OK, 2}, {kill(), api.OK, 2}, {rearm(), api.OK, 3},
		{rearm(), api.State, 0}, {order(0, 10, 1, 3, 0), api.OK, 2}, {kill(), api.OK, 3},
	})
	for i, e := range b.m.Book(0).Open {
		if e.Epoch != []int64{0, 1, 3}[i] || e.State != book.Live {
			t.Errorf("%d: %+v", i, e)
		}
	}
	if epoch, off := b.m.Epoch(); epoch != 3 || !off {
		t.Error(epoch, off)
	}
}

// P9.1: when the switch is off all but orders is done as ever.
func TestOffStopsOrdersAlone(t *testing.T) {
	b := begin(t, config(2))
	b.rows(t, []row{
		{order(0, 10, 3, 1, 0), api.OK, 0}, {order(1, 10, 3, 1, 0), api.OK, 1}, {order(2, 10, 3, 1, 0), api.OK, 2}, {kill(), api.OK, 0},
		{fill(0, 1), api.OK, 0}, {cancel(0), api.OK, 0}, {ack(0), api.OK, 0}, {cancel(1), api.OK, 0}, {fill(1, 3), api.OK, 0},
		{limit(0, 7), api.OK, 0}, {fill(0, 1), api.Unknown, 0}, {fill(2, 4), api.Over, 0}, {ack(2), api.State, 0},
	})
	if out := b.sweep(t, 0, 0); !slices.Equal(out, []model.Out{{Kind: model.Cancel, Id: 2}}) {
		t.Error(out)
	}
}

// P9.1: a Sweep is of one shard, of its epoch and of earlier ones, whatever the switch; of its Msg nothing counts.
func TestSweep(t *testing.T) {
	b := begin(t, config(2))
	for epoch := range int64(3) {
		b.rows(t, []row{
			{order(0, 10, 1, epoch, 0), api.OK, 4 * int(epoch)}, {order(1, 10, 1, epoch, 0), api.OK, 2*int(epoch) + 1},
			{order(2, 10, 1, epoch, 0), api.OK, 4*int(epoch) + 2}, {cancel(4 * int(epoch)), api.OK, 0},
			{ack(4 * int(epoch)), api.OK, 0}, {kill(), api.OK, int(epoch)}, {rearm(), api.OK, int(epoch) + 1},
		})
	}
	b.rows(t, []row{{cancel(6), api.OK, 0}, {order(4, 10, 1, 1, 0), api.OK, 12}})
	if a, out := b.op(t, model.Op{Sweep: true, Shard: 0, Epoch: 3, Msg: wire.Msg{Kind: -9, Id: 1 << 40}}); a != (model.Answer{Id: 3}) || !slices.Equal(out, []model.Out{{Kind: 1, Id: 2}, {Kind: 1, Id: 10}, {Kind: 1, Id: 12}}) {
		t.Error(a, out)
	}
	for i, w := range []struct {
		shard int
		epoch int64
		code  api.Code
		ids   []int
	}{
		{1, -1, api.OK, nil}, {1, math.MinInt64, api.OK, nil}, {1, 0, api.OK, []int{1}}, {1, 0, api.OK, nil},
		{1, 2, api.OK, []int{3, 5}}, {1, math.MaxInt64, api.OK, nil}, {0, math.MaxInt64, api.OK, nil},
		{-1, 0, api.Malformed, nil}, {2, 0, api.Malformed, nil}, {3, 0, api.Malformed, nil}, {4, 0, api.Malformed, nil},
		{math.MaxInt, 0, api.Malformed, nil}, {math.MinInt, 0, api.Malformed, nil}, {-2, 9, api.Malformed, nil},
	} {
		for _, m := range []wire.Msg{{}, {Kind: 4}, {Kind: 9}, order(3, 10, 1, 9, 9)} {
			a, out := b.op(t, model.Op{Sweep: true, Shard: w.shard, Epoch: w.epoch, Msg: m})
			var want []model.Out
			for _, id := range w.ids {
				want = append(want, model.Out{Kind: 1, Id: id})
			}
			if a != (model.Answer{Code: w.code, Id: len(w.ids)}) || !slices.Equal(out, want) {
				t.Errorf("%d: %+v, %v", i, a, out)
			}
			w.ids = nil // the second time there are none left
		}
	}
	// Of a message, the Shard and the Epoch count for nothing.
	if a, out := b.op(t, model.Op{Msg: order(3, 10, 1, 9, 9), Shard: 77, Epoch: -5}); a != (model.Answer{Id: 7}) || len(out) != 1 {
		t.Error(a, out)
	}
}

// P9.1: a Cap is another one from then on; what is reserved stays.
func TestLimit(t *testing.T) {
	b := begin(t, config(1))
	b.rows(t, []row{
		{limit(6, 1), api.Node, 0}, {limit(65535, 1), api.Node, 0}, {limit(6, 1<<62+1), api.Node, 0}, {limit(0, 1<<62+1), api.Malformed, 0},
		{limit(5, math.MaxInt64), api.Malformed, 0}, {limit(0, 1<<62), api.OK, 0}, {limit(0, 0), api.OK, 0}, {order(4, 10, 1, 1, 0), api.Trader, 0},
		{order(0, 10, 1, 1, 0), api.Firm, 0}, {limit(1, 0), api.OK, 0}, {order(0, 10, 1, 1, 0), api.Desk, 0}, {limit(3, 0), api.OK, 0},
		{order(0, 10, 1, 1, 0), api.Trader, 0}, {limit(0, 100), api.OK, 0}, {limit(1, 100), api.OK, 0}, {limit(3, 100), api.OK, 0},
		{order(0, 10, 10, 1, 0), api.OK, 0}, {limit(3, 50), api.OK, 0}, {order(0, 10, 1, 2, 0), api.Trader, 0},
		{fill(0, 5), api.OK, 0}, {order(0, 10, 1, 2, 0), api.Trader, 0}, {fill(0, 1), api.OK, 0}, {order(0, 10, 1, 2, 0), api.OK, 1},
	})
}

// P9.1: whatever isn't wire.Right is Malformed, whether the switch is off or not, and nothing is done.
func TestNoMessages(t *testing.T) {
	wrong := []wire.Msg{
		{Kind: -1}, {Kind: 7}, {Kind: math.MaxInt}, {Kind: math.MinInt}, {Kind: 1, Id: -1}, {Kind: 1, Id: 1 << 32}, {Kind: 1, Id: math.MinInt},
		{Kind: 1, Qty: 1}, {Kind: 2, Id: -1, Qty: 1}, {Kind: 2, Qty: -1}, {Kind: 2, Qty: math.MinInt64}, {Kind: 2, Qty: 1, Node: 1},
		{Kind: 3, Id: -1}, {Kind: 3, Id: 1 << 32}, {Kind: 3, Most: 1}, {Kind: 4, Id: 1}, {Kind: 4, Node: 1}, {Kind: 5, Id: 1}, {Kind: 5, Qty: 1},
		{Kind: 6, Node: -1}, {Kind: 6, Node: 65536}, {Kind: 6, Most: -1}, {Kind: 6, Id: 1}, {Kind: 4, Order: rules.Order{Sell: true}},
		{Order: rules.Order{Account: -1, Price: 10, Qty: 1}}, {Order: rules.Order{Symbol: 65536, Price: 10, Qty: 1}},
		{Order: rules.Order{Price: -1, Qty: 1}}, {Order: rules.Order{Price: 10, Qty: 1, Number: -1}}, {Id: 1, Order: rules.Order{Price: 10, Qty: 1}},
	}
	b := begin(t, config(2))
	b.rows(t, []row{{order(0, 10, 3, 1, 0), api.OK, 0}})
	for range 2 {
		for _, m := range wrong {
			b.rows(t, []row{{m, api.Malformed, 0}})
		}
		b.rows(t, []row{{kill(), api.OK, 0}})
	}
}

// P9.1: the greatest numbers: no sum and no product goes round.
func TestGreatestNumbers(t *testing.T) {
	const price, most = 1 << 40, math.MaxInt64
	b := begin(t, roomy(1<<62))
	b.rows(t, []row{
		{order(0, price, 1<<40, 1, 0), api.Overflow, 0}, {order(0, most, 1<<40, 1, 0), api.Overflow, 0}, {order(0, most, 1, 1, 0), api.Collar, 0},
		{order(0, price, 1<<22+1, 1, 0), api.Trader, 0}, {order(0, price, 1<<23-1, 1, 0), api.Trader, 0},
		{order(0, price, 1<<22, 1, most), api.OK, 0}, // all that there is room for
		{order(1, 1, 1, most, most), api.Trader, 0}, {order(1, price, 1<<22, 1, 0), api.Trader, 0}, {order(1, price, 1<<23-1, 1, 0), api.Trader, 0},
		{fill(0, 1), api.OK, 0}, {order(1, 1, 1<<40, most, most), api.OK, 1}, {order(2, 1, 1, 1, 1), api.Trader, 0},
		{fill(0, most), api.Over, 0}, {fill(0, 1<<22-1), api.OK, 0}, {fill(1, 1<<40-1), api.OK, 0},
		{order(2, 1, 1<<40, 1, 1), api.OK, 2}, {cancel(1), api.OK, 0}, {ack(1), api.OK, 0}, {order(2, 1, 1, 2, 0), api.Rate, 0},
		{limit(0, 0), api.OK, 0}, {order(2, 1, 1, 2, 2), api.Trader, 0},
	})
	if used := b.m.Credit().Used[0]; used != 1<<40 {
		t.Error(used)
	}
}

// P9.2: what is reserved goes by the Price and what is Left: part by part, to nought, at different prices, on all levels.
func TestReserved(t *testing.T) {
	b := begin(t, config(2))
	used := func(want ...int64) {
		t.Helper()
		if got := b.m.Credit().Used; !slices.Equal(got, want) {
			t.Fatalf("%v; want %v", got, want)
		}
	}
	used(0, 0, 0, 0, 0, 0)
	b.rows(t, []row{{order(0, 12, 10, 1, 0), api.OK, 0}, {order(1, 8, 5, 1, 0), api.OK, 1}, {order(2, 9, 10, 1, 0), api.OK, 2}})
	used(250, 160, 90, 120, 40, 90)
	b.rows(t, []row{{order(3, 7, 3, 1, 0), api.OK, 3}, {order(5, 6, 2, 1, 0), api.OK, 5}, {order(4, 5, 1, 1, 0), api.OK, 4}, {order(6, 11, 1, 1, 0), api.OK, 6}})
	used(299, 192, 102, 131, 40, 90)
	b.rows(t, []row{{fill(0, 3), api.OK, 0}, {fill(2, 10), api.OK, 0}, {fill(2, 1), api.Unknown, 0}, {fill(0, 8), api.Over, 0}, {fill(0, 0), api.Malformed, 0}})
	used(173, 156, 12, 95, 40, 0)
	b.rows(t, []row{{cancel(0), api.OK, 0}, {cancel(1), api.OK, 0}, {ack(3), api.State, 0}})
	used(173, 156, 12, 95, 40, 0)
	b.rows(t, []row{{ack(0), api.OK, 0}, {fill(1, 2), api.OK, 0}, {ack(0), api.Unknown, 0}})
	used(73, 56, 12, 11, 24, 0)
	if b.sweep(t, 0, 0); len(b.sweep(t, 1, 0)) != 2 {
		t.Error("those of shard 1 are two")
	}
	used(73, 56, 12, 11, 24, 0)
	b.rows(t, []row{{ack(1), api.OK, 0}, {ack(3), api.OK, 0}, {ack(4), api.OK, 0}, {ack(5), api.OK, 0}, {ack(6), api.OK, 0}})
	used(0, 0, 0, 0, 0, 0)
}

// draw takes numbers off a script, and 0 where it is at its end.
type draw struct{ script []byte }

func (d *draw) take(n int) int {
	if len(d.script) == 0 {
		return 0
	}
	x := int(d.script[0])
	d.script = d.script[1:]
	return x % n
}

func (d *draw) config() rules.Config {
	c := config(1 + d.take(4))
	c.Window, c.Rate, c.Table = d.take(4), 1+d.take(3), 1+d.take(6)
	c.Symbols[0].Worth = 80
	for i := range c.Nodes {
		c.Nodes[i].Cap = int64(50 * d.take(12))
	}
	for i := range c.Accounts {
		c.Accounts[i] = d.take(len(c.Nodes))
	}
	return c
}

func (d *draw) order(b *both) wire.Msg {
	o := rules.Order{Account: d.take(8), Symbol: d.take(8) / 3, Sell: d.take(2) == 1, Qty: int64(d.take(8))}
	if o.Price = int64(4 + d.take(13)); o.Symbol == 1 {
		o.Price *= 10
	}
	if o.Number = int64(d.take(9)); o.Account < len(b.p.c.Accounts) {
		o.Second = max(0, b.p.row(o.Account).Second+int64(d.take(4)-1))
	}
	return wire.Msg{Order: o}
}

func (d *draw) op(b *both) model.Op {
	id := d.take(2*b.p.c.Shards + 1 + len(b.p.came))
	if live := open(slices.Clone(b.p.came)); len(live) > 0 && d.take(3) > 0 {
		id = live[d.take(len(live))].Id
	}
	switch d.take(20) {
	case 0, 1:
		return model.Op{Msg: cancel(id)}
	case 2, 3, 4:
		return model.Op{Msg: fill(id, int64(d.take(6)))}
	case 5, 6:
		return model.Op{Msg: ack(id)}
	case 7:
		return model.Op{Msg: kill()}
	case 8, 9:
		return model.Op{Msg: rearm()}
	case 10:
		return model.Op{Msg: limit(d.take(7), int64(d.take(10)*d.take(100))<<(d.take(2)*53))}
	case 11:
		return model.Op{Sweep: true, Shard: d.take(5), Epoch: b.p.epoch - int64(d.take(3)), Msg: wire.Msg{Kind: d.take(9)}}
	case 12:
		return model.Op{Msg: wire.Msg{Kind: d.take(9), Id: d.take(3), Qty: int64(d.take(3)), Node: d.take(2)}, Shard: d.take(5)}
	default:
		return model.Op{Msg: d.order(b)}
	}
}

// walk goes on with a Model by what the script says.
func walk(t *testing.T, script []byte, met map[[2]int]int) {
	t.Helper()
	d := &draw{script}
	b := begin(t, d.config())
	for len(d.script) > 0 {
		b.op(t, d.op(b))
	}
	for k, n := range b.met {
		met[k] += n
	}
}

// P9.1 and P9.2: many steps of all kinds, each one held against all that ever came.
func TestManySteps(t *testing.T) {
	draw := rand.New(rand.NewSource(5))
	met := map[[2]int]int{}
	for range 400 {
		script := make([]byte, 800)
		draw.Read(script)
		walk(t, script, met)
	}
	for kind, codes := range [][]api.Code{
		{api.OK, api.Malformed, api.Killed, api.Account, api.Symbol, api.Size, api.Notional, api.Collar, api.Duplicate, api.Rate, api.Full, api.Trader, api.Desk, api.Firm},
		{api.OK, api.Malformed, api.Unknown, api.State},
		{api.OK, api.Malformed, api.Unknown, api.Over},
		{api.OK, api.Malformed, api.Unknown, api.State},
		{api.OK, api.Malformed},
		{api.OK, api.Malformed, api.State},
		{api.OK, api.Malformed, api.Node},
		{api.OK, api.Malformed},
	} {
		for _, code := range codes {
			if n := met[[2]int{kind, int(code)}]; n < 20 {
				t.Error("hardly met:", kind, code.Word(), n)
			}
		}
	}
}

// spare is a Config whose lists have room behind them, in which something stands.
func spare(c rules.Config) (rules.Config, func() bool) {
	nodes := append(slices.Clone(c.Nodes), tree.Node{Cap: 55}, tree.Node{Cap: 66})
	accounts := append(slices.Clone(c.Accounts), 55, 66)
	symbols := append(slices.Clone(c.Symbols), rules.Symbol{Price: 55}, rules.Symbol{Price: 66})
	was := rules.Config{Nodes: slices.Clone(nodes), Accounts: slices.Clone(accounts), Symbols: slices.Clone(symbols)}
	c.Nodes, c.Accounts, c.Symbols = nodes[:len(c.Nodes)], accounts[:len(c.Accounts)], symbols[:len(c.Symbols)]
	return c, func() bool {
		return sameConfig(was, rules.Config{Nodes: nodes, Accounts: accounts, Symbols: symbols})
	}
}

// P9.3, rule 4: the Config isn't changed by whatever is done, and may change later.
func TestConfigIsNotKept(t *testing.T) {
	c, stays := spare(config(2))
	b := begin(t, c)
	steps := []row{
		{order(0, 10, 5, 1, 0), api.OK, 0}, {limit(0, 800), api.OK, 0}, {limit(3, 200), api.OK, 0}, {order(1, 10, 5, 1, 0), api.OK, 1}, {kill(), api.OK, 0}, {rearm(), api.OK, 1},
	}
	b.rows(t, steps)
	if !stays() {
		t.Fatalf("what was handed in is changed: %+v", c)
	}
	for i := range c.Nodes {
		c.Nodes[i] = tree.Node{Parent: 77, Cap: 0}
	}
	for i := range c.Accounts {
		c.Accounts[i] = 5
	}
	for i := range c.Symbols {
		c.Symbols[i] = rules.Symbol{}
	}
	b.hold(t, "a change of what was handed in")
	b.rows(t, []row{
		{order(0, 10, 15, 2, 0), api.OK, 2}, {order(0, 10, 1, 3, 0), api.Trader, 0}, {fill(0, 5), api.OK, 0}, {cancel(2), api.OK, 0}, {ack(2), api.OK, 0},
		{order(3, 16, 1, 1, 0), api.Collar, 0}, {limit(5, 9), api.OK, 0}, {order(6, 10, 20, 1, 0), api.OK, 4},
	})
}

// scribble spoils all that an answer can reach, its spare room too.
func scribble(b book.Book, s credit.State, out []model.Out) {
	for i := range b.Open[:cap(b.Open)] {
		b.Open[:cap(b.Open)][i] = book.Entry{Id: -77, Left: -77}
	}
	for i, r := range b.Rows[:cap(b.Rows)] {
		for j := range r.Numbers[:cap(r.Numbers)] {
			r.Numbers[:cap(r.Numbers)][j] = -77
		}
		b.Rows[:cap(b.Rows)][i] = book.Row{Second: -77, Count: -77}
	}
	for i := range s.Nodes[:cap(s.Nodes)] {
		s.Nodes[:cap(s.Nodes)][i] = tree.Node{Parent: -77, Cap: -77}
	}
	for i := range s.Used[:cap(s.Used)] {
		s.Used[:cap(s.Used)][i] = -77
	}
	for i := range out[:cap(out)] {
		out[:cap(out)][i] = model.Out{Kind: -77, Id: -77}
	}
}

// P9.3: whoever changes an answer changes nothing of the Model's.
func TestAnswersCanBeChanged(t *testing.T) {
	draw := rand.New(rand.NewSource(8))
	for range 30 {
		d := newDraw(draw)
		b := begin(t, d.config())
		for len(d.script) > 0 {
			_, out := b.op(t, d.op(b))
			for shard := range b.p.c.Shards {
				scribble(b.m.Book(shard), b.m.Credit(), out)
			}
			b.hold(t, "a change of answers")
		}
	}
}

func newDraw(r *rand.Rand) *draw {
	script := make([]byte, 500)
	r.Read(script)
	return &draw{script}
}

// seen is what was answered once, and how it was then.
type seen struct {
	b, wasB     book.Book
	s, wasS     credit.State
	out, wasOut []model.Out
}

// P9.3: what was answered stays as it was, whatever is done behind it, and though others that were answered are changed.
func TestAnswersStay(t *testing.T) {
	draw := rand.New(rand.NewSource(11))
	for range 30 {
		d := newDraw(draw)
		b := begin(t, d.config())
		var l []seen
		for len(d.script) > 0 {
			_, out := b.op(t, d.op(b))
			for shard := range b.p.c.Shards {
				k, s := b.m.Book(shard), b.m.Credit()
				l = append(l, seen{k, cloneBook(k), s, cloneCredit(s), out, slices.Clone(out)})
				out = nil // it is one answer, whatever shards there are
			}
		}
		for i, x := range l {
			if !sameBook(x.b, x.wasB) || !sameCredit(x.s, x.wasS) || !slices.Equal(x.out, x.wasOut) {
				t.Fatalf("%d: %+v", i, x)
			}
			scribble(x.b, x.s, x.out)
		}
	}
}

// P9.3: of one Book no two lists share.
func TestListsOfOneBook(t *testing.T) {
	b := begin(t, config(1))
	for n := range int64(2) {
		for account := range 2 {
			b.msg(t, order(account, 10, 1, n, 0))
		}
	}
	k := b.m.Book(0)
	for i := range k.Rows {
		was := cloneBook(k)
		l := k.Rows[i].Numbers
		for j := range l[:cap(l)] {
			l[:cap(l)][j] = -77
		}
		for n := range k.Rows {
			if n != i && !slices.Equal(k.Rows[n].Numbers, was.Rows[n].Numbers) {
				t.Error("Rows", i, "and", n, "share their Numbers")
			}
		}
		k = was
	}
}

// Rule 5: Models share nothing with one another, also those of one Config.
func TestModelsApart(t *testing.T) {
	draw := rand.New(rand.NewSource(3))
	c := config(3)
	l := []*both{begin(t, c), begin(t, c), begin(t, c)}
	d := newDraw(draw)
	for len(d.script) > 0 {
		b := l[d.take(2)]
		b.op(t, d.op(b))
	}
	for _, b := range append(l, begin(t, c)) {
		b.hold(t, "what was done with others")
	}
}

// P9.1, P1: a nil Model, and such as Begin hasn't made: nothing is in it, and nothing can be done.
func TestNilAndZero(t *testing.T) {
	for name, m := range map[string]*model.Model{"nil": nil, "zero": {}} {
		for range 2 {
			for kind := -1; kind < 8; kind++ {
				for _, n := range []int{0, 1, -1, 5} {
					for _, o := range []model.Op{
						{Msg: wire.Msg{Kind: kind}}, {Msg: wire.Msg{Kind: kind, Id: n}}, {Msg: wire.Msg{Kind: kind, Id: n, Qty: 1}},
						{Msg: wire.Msg{Kind: kind, Node: n, Most: 1}}, {Msg: order(n, 10, 1, 1, 1)}, {Sweep: true, Shard: n, Msg: wire.Msg{Kind: kind}},
					} {
						if a, out := m.Do(o); a != (model.Answer{Code: api.Malformed}) || len(out) != 0 {
							t.Errorf("%s: %+v: %+v, %v", name, o, a, out)
						}
					}
				}
			}
			for _, shard := range []int{0, 1, -1, math.MaxInt, math.MinInt} {
				if !sameBook(m.Book(shard), book.Book{}) {
					t.Errorf("%s: Book %d: %+v", name, shard, m.Book(shard))
				}
			}
			epoch, off := m.Epoch()
			if s := m.Credit(); len(s.Nodes) != 0 || len(s.Used) != 0 || epoch != 0 || off {
				t.Errorf("%s: %+v, %d, %v", name, s, epoch, off)
			}
		}
	}
}

// P9.1, P1: the Book of a shard that there isn't.
func TestNoSuchShard(t *testing.T) {
	for shards := 1; shards <= 4; shards++ {
		b := begin(t, config(shards))
		b.msg(t, order(0, 10, 1, 1, 0))
		for _, shard := range []int{-1, -shards, shards, shards + 1, 4, 5, math.MaxInt, math.MinInt} {
			if k := b.m.Book(shard); !sameBook(k, book.Book{}) {
				t.Errorf("%d of %d: %+v", shard, shards, k)
			}
		}
	}
}

// P1: any Op ends, none panics: the least and the greatest numbers in all fields.
func TestAnyNumbers(t *testing.T) {
	ends := []int64{0, 1, -1, 6, math.MaxInt64, math.MinInt64, 1 << 32, 1<<32 - 1, 1 << 62}
	b := begin(t, config(3))
	b.msg(t, order(0, 10, 1, 1, 0))
	b.msg(t, order(1, 10, 1, 1, 0))
	for _, x := range ends {
		for _, y := range ends {
			for kind := -1; kind < 8; kind++ {
				b.op(t, model.Op{Msg: wire.Msg{Kind: kind, Id: int(x), Qty: y}, Shard: int(y), Epoch: x})
				b.op(t, model.Op{Msg: wire.Msg{Kind: kind, Id: int(x)}})
				b.op(t, model.Op{Msg: wire.Msg{Kind: kind, Node: int(x), Most: y}})
			}
			b.op(t, model.Op{Sweep: true, Shard: int(x), Epoch: y})
			for _, z := range ends {
				b.op(t, model.Op{Msg: wire.Msg{Order: rules.Order{Account: int(z), Symbol: int(z), Price: x, Qty: y, Number: z, Second: z}}})
				b.op(t, model.Op{Msg: order(0, x, y, z, 0)})
			}
		}
	}
}

// FuzzModel goes on from the seeds by: go test -fuzz FuzzModel ./model
func FuzzModel(f *testing.F) {
	f.Add([]byte{1, 2, 2, 5, 11, 11, 11, 11, 11, 11, 0, 1, 2, 3, 4, 5, 0, 0, 0, 19, 0, 0, 0, 3, 6, 1, 1, 0, 0, 7, 0, 0, 8, 0, 0, 11, 0, 0, 0})
	f.Add([]byte{0, 0, 0, 0, 9, 3, 4, 5, 6, 7, 3, 3, 3, 3, 3, 3, 3})
	f.Add([]byte("what the gate is like, one thing behind the other"))
	f.Fuzz(func(t *testing.T, script []byte) {
		walk(t, script[:min(len(script), 1500)], map[[2]int]int{})
	})
}
