package book_test

import (
	"math"
	"math/big"
	"math/rand"
	"slices"
	"testing"

	"stopgate/api"
	"stopgate/book"
	"stopgate/rules"
	"stopgate/tree"
)

// config is one that may be, with so many accounts, and room for any order.
func config(shards, window, rate, table, accounts int) rules.Config {
	return rules.Config{
		Shards: shards, Window: window, Rate: rate, Table: table,
		Nodes: []tree.Node{{Parent: -1, Cap: api.MaxCap}}, Accounts: make([]int, accounts),
		Symbols: []rules.Symbol{{Price: 10, Qty: api.MaxQty, Worth: math.MaxInt64, Band: math.Inf(1)}},
	}
}

func order(account int, number, second int64) rules.Order {
	return rules.Order{Account: account, Price: 10, Qty: 3, Number: number, Second: second}
}

func clone(b book.Book) book.Book {
	b.Open, b.Rows = slices.Clone(b.Open), slices.Clone(b.Rows)
	for i := range b.Rows {
		b.Rows[i].Numbers = slices.Clone(b.Rows[i].Numbers)
	}
	return b
}

func same(a, b book.Book) bool {
	rows := slices.EqualFunc(a.Rows, b.Rows, func(r, s book.Row) bool {
		return slices.Equal(r.Numbers, s.Numbers) && r.Second == s.Second && r.Count == s.Count
	})
	return a.Shard == b.Shard && a.Came == b.Came && rows && slices.Equal(a.Open, b.Open)
}

// past is all that ever came to a shard: each answer is worked out from it anew, with nothing kept of what was known between.
type past struct {
	c     rules.Config
	shard int
	came  []book.Entry // those that aren't open any more have State 0
}

func (p *past) of(account int) []book.Entry {
	var l []book.Entry
	for _, e := range p.came {
		if e.Order.Account == account {
			l = append(l, e)
		}
	}
	return l
}

func (p *past) open() []book.Entry {
	return slices.DeleteFunc(slices.Clone(p.came), func(e book.Entry) bool { return e.State == 0 })
}

func (p *past) row(account int) book.Row {
	var r book.Row
	l := p.of(account)
	for i, e := range l {
		if i >= len(l)-p.c.Window {
			r.Numbers = append(r.Numbers, e.Order.Number)
		}
		if last := l[len(l)-1].Order.Second; e.Order.Second == last {
			r.Second, r.Count = last, r.Count+1
		}
	}
	return r
}

func (p *past) book() book.Book {
	b := book.Book{Shard: p.shard, Came: len(p.came), Open: p.open()}
	for account := range p.c.Accounts {
		b.Rows = append(b.Rows, p.row(account))
	}
	return b
}

func (p *past) look(o rules.Order) api.Code {
	l := p.of(o.Account)
	now := 0
	for i, e := range l {
		if i >= len(l)-p.c.Window && e.Order.Number == o.Number {
			return api.Duplicate
		}
	}
	for _, e := range l {
		if e.Order.Second > o.Second {
			return api.Rate
		}
		if e.Order.Second == o.Second {
			now++
		}
	}
	switch {
	case now >= p.c.Rate:
		return api.Rate
	case len(p.open()) >= p.c.Table:
		return api.Full
	}
	return api.OK
}

func (p *past) add(o rules.Order, epoch int64) int {
	id := p.shard + p.c.Shards*len(p.came)
	p.came = append(p.came, book.Entry{Id: id, Order: o, Left: o.Qty, State: book.Live, Epoch: epoch})
	return id
}

// at is the open order of an Id; nil: there is none.
func (p *past) at(id int) *book.Entry {
	for i := range p.came {
		if p.came[i].Id == id && p.came[i].State != 0 {
			return &p.came[i]
		}
	}
	return nil
}

func (p *past) cancel(id int) api.Code {
	e := p.at(id)
	switch {
	case e == nil:
		return api.Unknown
	case e.State == 2:
		return api.State
	}
	e.State = 2
	return api.OK
}

func (p *past) fill(id int, qty int64) api.Code {
	e := p.at(id)
	switch {
	case qty <= 0:
		return api.Malformed
	case e == nil:
		return api.Unknown
	case e.Left < qty:
		return api.Over
	case e.Left == qty:
		e.State = 0
	}
	e.Left -= qty
	return api.OK
}

func (p *past) ack(id int) api.Code {
	e := p.at(id)
	switch {
	case e == nil:
		return api.Unknown
	case e.State == 1:
		return api.State
	}
	e.State = 0
	return api.OK
}

func (p *past) sweep(epoch int64) []int {
	var ids []int
	for i, e := range p.came {
		if e.State == 1 && e.Epoch <= epoch {
			p.came[i].State = 2
			ids = append(ids, e.Id)
		}
	}
	return ids
}

func (p *past) worth(account int) *big.Int {
	sum := new(big.Int)
	for _, e := range p.open() {
		if e.Order.Account == account {
			sum.Add(sum, new(big.Int).Mul(big.NewInt(e.Order.Price), big.NewInt(e.Left)))
		}
	}
	return sum
}

// shard is a Book beside its past.
type shard struct {
	b   book.Book
	p   past
	met map[[2]int]int // how often a call answered a Code
}

const (
	look = iota
	cancel
	fill
	ack
)

func begin(t *testing.T, c rules.Config, n int) *shard {
	t.Helper()
	s := &shard{b: book.Begin(c, n), p: past{c: c, shard: n}, met: map[[2]int]int{}}
	s.hold(t, "Begin")
	return s
}

// hold holds the Book against its past, and all that is asked of it without a change.
func (s *shard) hold(t *testing.T, what string) {
	t.Helper()
	if want := s.p.book(); !same(s.b, want) {
		t.Fatalf("%s: %+v; want %+v", what, s.b, want)
	}
	for _, e := range s.p.came {
		found, ok := book.Find(s.b, e.Id)
		if ok != (e.State != 0) || ok && found != e || !ok && found != (book.Entry{}) {
			t.Fatalf("Find of %d: %+v, %v", e.Id, found, ok)
		}
	}
	for _, id := range []int{-1, s.p.shard + s.p.c.Shards*len(s.p.came), s.p.shard - s.p.c.Shards, math.MaxInt, math.MinInt} {
		if found, ok := book.Find(s.b, id); ok || found != (book.Entry{}) {
			t.Fatalf("Find of %d: %+v, %v", id, found, ok)
		}
	}
	for account := range len(s.p.c.Accounts) + 1 {
		if worth := book.Worth(s.b, account); s.p.worth(account).Cmp(big.NewInt(worth)) != 0 {
			t.Fatalf("Worth of %d: %d; want %d", account, worth, s.p.worth(account))
		}
	}
	if worth := book.Worth(s.b, -1); worth != 0 {
		t.Fatalf("Worth of -1: %d", worth)
	}
}

// then goes on with the Book that a call answered: what was handed in is still as it was (P7.3).
func (s *shard) then(t *testing.T, what string, was, b book.Book) {
	t.Helper()
	if !same(s.b, was) {
		t.Fatalf("%s changed what was handed in to %+v", what, s.b)
	}
	s.b = b
	s.hold(t, what)
}

// order is looked at, and added if nothing is wrong with it.
func (s *shard) order(t *testing.T, o rules.Order, epoch int64) api.Code {
	t.Helper()
	was := clone(s.b)
	code := book.Look(s.p.c, s.b, o)
	if want := s.p.look(o); code != want {
		t.Fatalf("Look of %+v: %v; want %v", o, code.Word(), want.Word())
	}
	s.met[[2]int{look, int(code)}]++
	s.then(t, "Look", was, s.b)
	if code == api.OK {
		b, id := book.Add(s.p.c, s.b, o, epoch)
		if want := s.p.add(o, epoch); id != want {
			t.Fatalf("Add: %d; want %d", id, want)
		}
		s.then(t, "Add", was, b)
	}
	return code
}

func (s *shard) answered(t *testing.T, what int, code, want api.Code) {
	t.Helper()
	words := []string{"Look", "Cancel", "Fill", "Ack"}
	if code != want {
		t.Fatalf("%s: %v; want %v", words[what], code.Word(), want.Word())
	}
	s.met[[2]int{what, int(code)}]++
}

func (s *shard) cancel(t *testing.T, id int) api.Code {
	t.Helper()
	was := clone(s.b)
	b, code := book.Cancel(s.b, id)
	s.answered(t, cancel, code, s.p.cancel(id))
	s.then(t, "Cancel", was, b)
	return code
}

func (s *shard) fill(t *testing.T, id int, qty int64) api.Code {
	t.Helper()
	was := clone(s.b)
	b, code := book.Fill(s.b, id, qty)
	s.answered(t, fill, code, s.p.fill(id, qty))
	s.then(t, "Fill", was, b)
	return code
}

func (s *shard) ack(t *testing.T, id int) api.Code {
	t.Helper()
	was := clone(s.b)
	b, code := book.Ack(s.b, id)
	s.answered(t, ack, code, s.p.ack(id))
	s.then(t, "Ack", was, b)
	return code
}

func (s *shard) sweep(t *testing.T, epoch int64) []int {
	t.Helper()
	was := clone(s.b)
	b, ids := book.Sweep(s.b, epoch)
	if want := s.p.sweep(epoch); !slices.Equal(ids, want) {
		t.Fatalf("Sweep of %d: %v; want %v", epoch, ids, want)
	}
	s.then(t, "Sweep", was, b)
	return ids
}

// P7.1 and P7.2: the example that the document writes out.
func TestIds(t *testing.T) {
	c := config(3, 2, 9, 9, 2)
	b, x := book.Add(c, book.Begin(c, 1), order(1, 1, 0), 0)
	b, y := book.Add(c, b, order(1, 2, 0), 0)
	if x != 1 || y != 4 || b.Came != 2 || len(b.Open) != 2 || b.Open[0].Id != 1 || b.Open[1].Id != 4 {
		t.Error(x, y, b)
	}
	if b, x := book.Add(c, book.Begin(c, 0), order(0, 1, 0), 0); x != 0 || b.Came != 1 {
		t.Error(x, b)
	}
}

// P7.1: at the beginning nothing came, and each account has a Row.
func TestBegin(t *testing.T) {
	for _, accounts := range []int{1, 2, 32} {
		for n := range 4 {
			b := book.Begin(config(4, 16, 1, 1, accounts), n)
			if b.Shard != n || b.Came != 0 || len(b.Open) != 0 || len(b.Rows) != accounts {
				t.Error(b)
			}
			for _, r := range b.Rows {
				if len(r.Numbers) != 0 || r.Second != 0 || r.Count != 0 {
					t.Error(r)
				}
			}
		}
	}
	for _, n := range []int{-1, 4, math.MaxInt, math.MinInt} {
		if b := book.Begin(config(4, 16, 1, 1, 2), n); b.Shard != n {
			t.Error("as handed in:", b.Shard, n)
		}
	}
}

// P7.1: an order comes with all that it is, in the epoch of which it is told.
func TestAdd(t *testing.T) {
	o := rules.Order{Account: 1, Symbol: 0, Sell: true, Price: 12, Qty: 5, Number: 77, Second: 9}
	for _, epoch := range []int64{0, 1, math.MaxInt64, -1} {
		c := config(2, 3, 2, 2, 2)
		b, id := book.Add(c, book.Begin(c, 1), o, epoch)
		want := book.Entry{Id: 1, Order: o, Left: 5, State: 1, Epoch: epoch}
		if e, ok := book.Find(b, id); !ok || e != want || id != 1 {
			t.Errorf("%+v, %v; want %+v", e, ok, want)
		}
		if r := b.Rows[1]; !slices.Equal(r.Numbers, []int64{77}) || r.Second != 9 || r.Count != 1 {
			t.Error(r)
		}
		if r := b.Rows[0]; len(r.Numbers) != 0 || r.Second != 0 || r.Count != 0 {
			t.Error("another account's:", r)
		}
	}
}

// P7.1: so many numbers back none is used twice, and the one ahead of these may be.
func TestDuplicate(t *testing.T) {
	for _, window := range []int{0, 1, 2, 15, 16} {
		s := begin(t, config(1, window, 1000, 64, 2), 0)
		for n := range int64(20) {
			if code := s.order(t, order(0, n, 0), 0); code != api.OK {
				t.Fatal(code.Word())
			}
			for back := range n + 1 {
				want := api.OK
				if back < int64(window) {
					want = api.Duplicate
				}
				if code := book.Look(s.p.c, s.b, order(0, n-back, 0)); code != want {
					t.Errorf("window %d, %d numbers back: %v", window, back, code.Word())
				}
				if code := book.Look(s.p.c, s.b, order(1, n-back, 0)); code != api.OK {
					t.Errorf("another account's number: %v", code.Word())
				}
			}
		}
	}
	s := begin(t, config(1, 2, 1000, 64, 1), 0)
	for _, n := range []int64{math.MaxInt64, 0} {
		if s.order(t, order(0, n, 0), 0) != api.OK || s.order(t, order(0, n, 0), 0) != api.Duplicate {
			t.Error(n)
		}
	}
	// What was filled was used all the same.
	s.fill(t, 0, 3)
	if s.order(t, order(0, math.MaxInt64, 5), 0) != api.Duplicate {
		t.Error("a number may be used again as its order is done")
	}
}

// P7.1: so many orders of an account in one second, and none in an earlier one.
func TestRate(t *testing.T) {
	for _, rate := range []int{1, 2, 3} {
		s := begin(t, config(1, 0, rate, 64, 2), 0)
		for _, second := range []int64{0, 1, 5, math.MaxInt64 - 1, math.MaxInt64} {
			for range rate {
				if code := s.order(t, order(0, 0, second), 0); code != api.OK {
					t.Error(rate, second, code.Word())
				}
			}
			if code := s.order(t, order(0, 0, second), 0); code != api.Rate {
				t.Error("one more:", rate, second, code.Word())
			}
			if second > 0 {
				if code := s.order(t, order(0, 0, second-1), 0); code != api.Rate {
					t.Error("earlier:", rate, second, code.Word())
				}
			}
			if code := book.Look(s.p.c, s.b, order(1, 0, 0)); code != api.OK {
				t.Error("another account's:", code.Word())
			}
		}
	}
	// A second in which there is still room is no later one's.
	s := begin(t, config(1, 0, 3, 64, 1), 0)
	s.order(t, order(0, 0, 4), 0)
	if s.order(t, order(0, 0, 3), 0) != api.Rate || s.order(t, order(0, 0, 4), 0) != api.OK {
		t.Error(s.b)
	}
	// Orders that are done were some of that second all the same.
	s.fill(t, 0, 3)
	s.fill(t, 1, 3)
	if s.order(t, order(0, 0, 4), 0) != api.OK || s.order(t, order(0, 0, 4), 0) != api.Rate {
		t.Error(s.b)
	}
}

// P7.1: the greatest Rate.
func TestGreatestRate(t *testing.T) {
	c := config(1, 0, 1000, 64, 1)
	b := book.Begin(c, 0)
	for i := range 1000 {
		if code := book.Look(c, b, order(0, 0, 7)); code != api.OK {
			t.Fatal(i, code.Word())
		}
		var id int
		b, id = book.Add(c, b, order(0, 0, 7), 0)
		b, _ = book.Fill(b, id, 3)
	}
	if code := book.Look(c, b, order(0, 0, 7)); code != api.Rate || b.Rows[0].Count != 1000 {
		t.Error(code.Word(), b.Rows[0])
	}
	if code := book.Look(c, b, order(0, 0, 8)); code != api.OK {
		t.Error(code.Word())
	}
}

// P7.1: so many orders are open, whosever they are; one that is Pending is open.
func TestFull(t *testing.T) {
	for _, table := range []int{1, 2, 63, 64} {
		s := begin(t, config(1, 0, 1000, table, 2), 0)
		for n := range table {
			if code := s.order(t, order(n%2, 0, 0), 0); code != api.OK {
				t.Error(table, n, code.Word())
			}
		}
		for account := range 2 {
			if code := s.order(t, order(account, 0, 0), 0); code != api.Full {
				t.Error(table, code.Word())
			}
		}
		s.cancel(t, 0)
		s.fill(t, 0, 2)
		if code := s.order(t, order(0, 0, 0), 0); code != api.Full {
			t.Error("one is Pending:", table, code.Word())
		}
		s.ack(t, 0)
		if code := s.order(t, order(0, 0, 0), 0); code != api.OK {
			t.Error("one was done:", table, code.Word())
		}
		if code := s.order(t, order(1, 0, 0), 0); code != api.Full {
			t.Error("another one came:", table, code.Word())
		}
	}
}

// P7.1: Duplicate counts ahead of Rate, and Rate ahead of Full.
func TestCodesOfLook(t *testing.T) {
	c := config(1, 2, 1, 1, 1)
	b, id := book.Add(c, book.Begin(c, 0), order(0, 8, 5), 0)
	done, _ := book.Fill(b, id, 3)
	for i, w := range []struct {
		b              book.Book
		number, second int64
		want           api.Code
	}{
		{b, 8, 5, api.Duplicate}, {b, 8, 4, api.Duplicate}, {b, 8, 6, api.Duplicate},
		{b, 9, 5, api.Rate}, {b, 9, 4, api.Rate}, {b, 9, 6, api.Full},
		{done, 8, 5, api.Duplicate}, {done, 8, 6, api.Duplicate}, {done, 9, 5, api.Rate}, {done, 9, 4, api.Rate}, {done, 9, 6, api.OK},
	} {
		if code := book.Look(c, w.b, order(0, w.number, w.second)); code != w.want {
			t.Errorf("%d: %v", i, code.Word())
		}
	}
}

// P7.1: the codes of Cancel, Fill and Ack, in their order, one behind the other.
func TestOneOrder(t *testing.T) {
	s := begin(t, config(2, 0, 9, 9, 2), 1)
	for range 3 {
		s.order(t, order(1, 0, 0), 0)
	}
	for i, w := range []struct {
		what, id int
		qty      int64
		want     api.Code
	}{
		{cancel, 0, 0, api.Unknown}, {cancel, 2, 0, api.Unknown}, {cancel, 7, 0, api.Unknown}, {cancel, -1, 0, api.Unknown},
		{fill, 7, 1, api.Unknown}, {fill, 7, 0, api.Malformed}, {fill, -1, 1, api.Unknown}, {fill, 7, math.MaxInt64, api.Unknown},
		{ack, 7, 0, api.Unknown}, {ack, -1, 0, api.Unknown}, {ack, math.MaxInt, 0, api.Unknown},
		{ack, 3, 0, api.State},
		{fill, 3, 0, api.Malformed}, {fill, 3, -1, api.Malformed}, {fill, 3, math.MinInt64, api.Malformed},
		{fill, 3, 4, api.Over}, {fill, 3, math.MaxInt64, api.Over}, {fill, 3, 1, api.OK}, {fill, 3, 3, api.Over},
		{cancel, 3, 0, api.OK}, {cancel, 3, 0, api.State},
		{fill, 3, 3, api.Over}, {fill, 3, 0, api.Malformed}, {fill, 3, 1, api.OK}, // it is filled though it is Pending
		{ack, 3, 0, api.OK}, {ack, 3, 0, api.Unknown}, {cancel, 3, 0, api.Unknown}, {fill, 3, 1, api.Unknown}, {fill, 3, 0, api.Malformed},
		{fill, 1, 3, api.OK}, {ack, 1, 0, api.Unknown}, // all at once
		{cancel, 5, 0, api.OK}, {fill, 5, 2, api.OK}, {fill, 5, 1, api.OK}, {ack, 5, 0, api.Unknown}, // the last one of a Pending one
	} {
		var code api.Code
		switch w.what {
		case cancel:
			code = s.cancel(t, w.id)
		case fill:
			code = s.fill(t, w.id, w.qty)
		case ack:
			code = s.ack(t, w.id)
		}
		if code != w.want {
			t.Errorf("%d: %v", i, code.Word())
		}
	}
	if len(s.b.Open) != 0 {
		t.Error("still open:", s.b.Open)
	}
}

// P7.1: a Sweep asks for all Live ones of its epoch and of earlier ones, once.
func TestSweep(t *testing.T) {
	s := begin(t, config(2, 0, 99, 64, 2), 1)
	if ids := s.sweep(t, math.MaxInt64); len(ids) != 0 {
		t.Error("of none:", ids)
	}
	for _, epoch := range []int64{0, 2, 1, 0, 3, 2, 1, math.MaxInt64} {
		s.order(t, order(1, 0, 0), epoch)
	}
	s.cancel(t, 7)
	s.fill(t, 1, 2)
	for i, w := range []struct {
		epoch int64
		ids   []int
	}{
		{-1, nil}, {math.MinInt64, nil}, {0, []int{1}}, {0, nil}, {1, []int{5, 13}}, {1, nil}, {3, []int{3, 9, 11}},
		{math.MaxInt64 - 1, nil}, {math.MaxInt64, []int{15}}, {math.MaxInt64, nil},
	} {
		if ids := s.sweep(t, w.epoch); !slices.Equal(ids, w.ids) {
			t.Errorf("%d: %v", i, ids)
		}
	}
	for _, e := range s.b.Open {
		s.ack(t, e.Id)
	}
	if len(s.b.Open) != 0 || s.b.Came != 8 {
		t.Error(s.b)
	}
}

// P7.1: what is open of an account, up to 2^62.
func TestWorth(t *testing.T) {
	s := begin(t, config(1, 0, 99, 9, 3), 0)
	big := rules.Order{Account: 0, Price: 1 << 21, Qty: 1 << 40}
	for range 2 {
		s.order(t, big, 0)
	}
	if book.Worth(s.b, 0) != 1<<62 || book.Worth(s.b, 1) != 0 {
		t.Error(book.Worth(s.b, 0), book.Worth(s.b, 1))
	}
	s.fill(t, 0, 1<<40)
	s.fill(t, 1, 1<<40-1)
	s.order(t, rules.Order{Account: 2, Price: 7, Qty: 5}, 0)
	s.order(t, rules.Order{Account: 0, Price: 3, Qty: 4}, 0)
	s.cancel(t, 3)
	for account, want := range []int64{1<<21 + 12, 0, 35, 0} {
		if worth := book.Worth(s.b, account); worth != want {
			t.Errorf("of %d: %d", account, worth)
		}
	}
}

// walk goes on with a Book of each shard, by what the bytes say.
func walk(t *testing.T, script []byte, met map[[2]int]int) {
	t.Helper()
	take := func() int {
		if len(script) == 0 {
			return 0
		}
		n := int(script[0])
		script = script[1:]
		return n
	}
	c := config(1+take()%4, take()%4, 1+take()%3, 1+take()%6, 1+take()%9)
	shards := make([]*shard, c.Shards)
	given := map[int]bool{}
	for n := range shards {
		shards[n] = begin(t, c, n)
	}
	for len(script) > 0 {
		s := shards[take()%c.Shards]
		id := s.p.shard + c.Shards*(len(s.p.came)-1-take()%5)
		switch kind := take() % 9; kind {
		case 0:
			s.cancel(t, id)
		case 1, 2:
			s.fill(t, id, int64(take()%4))
		case 3, 4:
			s.ack(t, id)
		case 5:
			if take()%3 == 0 {
				s.sweep(t, int64(take()%4))
			}
		default:
			account := s.p.shard + c.Shards*(take()%3)
			if account >= len(c.Accounts) {
				continue
			}
			o := rules.Order{Account: account, Price: int64(1 + take()%50), Qty: int64(1 + take()%3), Number: int64(take() % 7)}
			o.Sell = o.Price%2 == 0
			o.Second = max(0, s.p.row(account).Second+int64(take()%4-1))
			if s.order(t, o, int64(take()%4)) == api.OK {
				// P7.2: no Id is given twice, by no shard.
				id := s.p.came[len(s.p.came)-1].Id
				if given[id] || id%c.Shards != s.p.shard {
					t.Fatalf("the Id %d was given again, or by another shard: %d", id, s.p.shard)
				}
				given[id] = true
			}
		}
	}
	for _, s := range shards {
		for k, n := range s.met {
			met[k] += n
		}
	}
}

// P7.1 and P7.2: many steps of all kinds, each one held against all that ever came.
func TestManySteps(t *testing.T) {
	draw := rand.New(rand.NewSource(7))
	met := map[[2]int]int{}
	for range 300 {
		script := make([]byte, 600)
		draw.Read(script)
		walk(t, script, met)
	}
	for _, k := range [][2]int{
		{look, int(api.OK)}, {look, int(api.Duplicate)}, {look, int(api.Rate)}, {look, int(api.Full)},
		{cancel, int(api.OK)}, {cancel, int(api.Unknown)}, {cancel, int(api.State)},
		{fill, int(api.OK)}, {fill, int(api.Malformed)}, {fill, int(api.Unknown)}, {fill, int(api.Over)},
		{ack, int(api.OK)}, {ack, int(api.Unknown)}, {ack, int(api.State)},
	} {
		if met[k] < 100 {
			t.Error("hardly met:", k, met[k])
		}
	}
}

// roomy is a Book whose lists have room behind them, in which something stands.
func roomy(c rules.Config) (book.Book, []book.Row, []book.Entry, [][]int64) {
	b := book.Begin(c, 0)
	for n := range int64(3) {
		b, _ = book.Add(c, b, order(0, n, 0), n)
	}
	b, _ = book.Cancel(b, 1)
	var numbers [][]int64
	rows := append(slices.Clone(b.Rows), book.Row{Second: 55}, book.Row{Second: 66})
	for i := range b.Rows {
		l := append(slices.Clone(b.Rows[i].Numbers), 55, 66)
		rows[i].Numbers = l[:len(l)-2]
		numbers = append(numbers, l)
	}
	open := append(slices.Clone(b.Open), book.Entry{Id: 55}, book.Entry{Id: 66})
	b.Rows, b.Open = rows[:len(b.Rows)], open[:len(b.Open)]
	return b, rows, open, numbers
}

// answers: what each call answers, of refusals too, with the Ids of Sweeps.
func answers(c rules.Config, b book.Book) ([]book.Book, [][]int) {
	l := []book.Book{book.Begin(c, 0)}
	var ids [][]int
	for account := range 2 {
		n, _ := book.Add(c, b, order(account, 9, 1), 1)
		l = append(l, n)
	}
	for _, id := range []int{0, 1, 2, 3, -1} {
		n, _ := book.Cancel(b, id)
		m, _ := book.Ack(b, id)
		l = append(l, n, m)
		for _, qty := range []int64{0, 1, 3, 4} {
			n, _ := book.Fill(b, id, qty)
			l = append(l, n)
		}
	}
	for _, epoch := range []int64{-1, 0, 9} {
		n, swept := book.Sweep(b, epoch)
		l, ids = append(l, n), append(ids, swept)
	}
	return l, ids
}

// scribble spoils all that a Book can reach, its spare room too.
func scribble(b book.Book) {
	for i := range b.Open[:cap(b.Open)] {
		b.Open[:cap(b.Open)][i] = book.Entry{Id: -77, Left: -77}
	}
	for i, r := range b.Rows[:cap(b.Rows)] {
		for j := range r.Numbers[:cap(r.Numbers)] {
			r.Numbers[:cap(r.Numbers)][j] = -77
		}
		b.Rows[:cap(b.Rows)][i] = book.Row{Second: -77, Count: -77}
	}
}

// P7.3: nothing that is handed in is changed, its spare room neither; and answers share nothing with that, nor with one another.
func TestAnswersAreNew(t *testing.T) {
	c := config(1, 2, 9, 9, 2)
	in, rows, open, numbers := roomy(c)
	was := clone(in)
	stays := func(what string) {
		t.Helper()
		ends := rows[2].Second == 55 && rows[3].Second == 66 && open[3].Id == 55 && open[4].Id == 66
		for _, l := range numbers {
			ends = ends && slices.Equal(l[len(l)-2:], []int64{55, 66})
		}
		if !same(in, was) || !ends {
			t.Fatal(what, in, rows, open, numbers)
		}
	}
	first, firstIds := answers(c, in)
	second, secondIds := answers(c, in)
	stays("what was handed in is changed:")
	var want []book.Book
	for _, b := range first {
		want = append(want, clone(b))
	}
	for i, b := range second {
		scribble(b)
		stays("an answer shares with what was handed in:")
		if !same(first[i], want[i]) {
			t.Fatal("two answers share:", i)
		}
	}
	for i, l := range secondIds {
		for j := range l[:cap(l)] {
			l[:cap(l)][j] = -77
		}
		if slices.Contains(firstIds[i], -77) {
			t.Fatal("two lists of Ids share")
		}
	}
	scribble(book.Book{Rows: rows, Open: open})
	for i := range first {
		if !same(first[i], want[i]) {
			t.Error("answer", i, "changed to", first[i])
		}
		scribble(first[i])
	}
}

// P7.3: of an answer no two lists share, and each Row can grow by itself.
func TestListsOfOneAnswer(t *testing.T) {
	c := config(1, 3, 9, 9, 3)
	b := book.Begin(c, 0)
	for n := range int64(9) {
		b, _ = book.Add(c, b, order(int(n%3), n, 0), 0)
	}
	b, _ = book.Cancel(b, 0)
	for i := range b.Rows {
		before := clone(b)
		l := b.Rows[i].Numbers
		for j := range l[:cap(l)] {
			l[:cap(l)][j] = -77
		}
		for k := range b.Rows {
			if k != i && !slices.Equal(b.Rows[k].Numbers, before.Rows[k].Numbers) {
				t.Error("Rows", i, "and", k, "share their Numbers")
			}
		}
		b = before
	}
}

// P7.1: what a refusal answers is the Book as it was handed in.
func TestRefusals(t *testing.T) {
	c := config(1, 2, 9, 9, 2)
	b, _, _, _ := roomy(c)
	for _, id := range []int{3, -1, math.MaxInt, math.MinInt} {
		x, j := book.Cancel(b, id)
		y, k := book.Ack(b, id)
		z, l := book.Fill(b, id, 1)
		if j != api.Unknown || k != api.Unknown || l != api.Unknown || !same(x, b) || !same(y, b) || !same(z, b) {
			t.Error(id, j.Word(), k.Word(), l.Word(), x, y, z)
		}
	}
	x, j := book.Cancel(b, 1)
	y, k := book.Ack(b, 0)
	z, l := book.Fill(b, 0, 4)
	w, m := book.Fill(b, 0, 0)
	if j != api.State || k != api.State || l != api.Over || m != api.Malformed || !same(x, b) || !same(y, b) || !same(z, b) || !same(w, b) {
		t.Error(j.Word(), k.Word(), l.Word(), m.Word(), x, y, z, w)
	}
}

// P1: of Books that came of nothing, of Configs that may not be, and of any orders, each call ends, none panics, and no
// number goes round.
func TestWrongInputs(t *testing.T) {
	ends := []int64{0, 1, -1, 2, math.MaxInt64, math.MinInt64, math.MaxInt64 - 1}
	var configs []rules.Config
	for _, n := range ends {
		configs = append(configs, config(int(n), 2, 2, 2, 2), config(2, int(n), 2, 2, 2), config(2, 2, int(n), int(n), 0))
	}
	var books []book.Book
	for _, n := range ends {
		for _, m := range ends {
			e := book.Entry{Id: int(n), Order: rules.Order{Price: n, Qty: m}, Left: m, State: int(m), Epoch: n}
			r := book.Row{Numbers: []int64{n, m, n}, Second: m, Count: int(n)}
			books = append(books, book.Book{Shard: int(n), Came: int(m), Rows: []book.Row{r, {}}, Open: []book.Entry{e, e, {Id: -1}}},
				book.Book{Rows: []book.Row{r, r}}, book.Book{Shard: int(n), Came: int(m)})
		}
	}
	for _, c := range configs {
		for _, n := range ends {
			book.Begin(c, int(n))
		}
		for _, b := range books {
			for _, n := range ends {
				o := rules.Order{Account: int(n), Price: n, Qty: n, Number: n, Second: n}
				book.Look(c, b, o)
				after, id := book.Add(c, b, o, n)
				if id < -1 || id >= 0 && after.Came != b.Came+1 || id < 0 && len(after.Open) != 0 {
					t.Errorf("Add to %+v of %+v: %+v, %d", b, c, after, id)
				}
				for i := range after.Rows {
					if after.Rows[i].Count < b.Rows[i].Count && after.Rows[i].Count != 1 {
						t.Errorf("the Count went round: %+v, %+v", b.Rows[i], after.Rows[i])
					}
				}
			}
		}
	}
	for _, b := range books {
		for _, n := range ends {
			for _, m := range ends {
				book.Fill(b, int(n), m)
			}
			book.Find(b, int(n))
			book.Cancel(b, int(n))
			book.Ack(b, int(n))
			book.Sweep(b, n)
			if worth := book.Worth(b, int(n)); worth < 0 {
				t.Errorf("Worth of %+v: %d", b, worth)
			}
		}
	}
}

// FuzzBook goes on from the seeds by: go test -fuzz FuzzBook ./book
func FuzzBook(f *testing.F) {
	f.Add([]byte{2, 2, 1, 2, 5, 1, 0, 7, 0, 10, 2, 1, 1, 0, 1, 0, 7, 0, 10, 2, 2, 1, 0, 1, 0, 1, 2})
	f.Add([]byte{0, 0, 0, 0, 0, 0, 0, 8, 0, 3, 0, 0, 1, 0, 0, 0, 5, 0, 3, 0, 0, 0, 4})
	f.Add([]byte("how an order comes, is filled, is asked to be cancelled, and goes"))
	f.Fuzz(func(t *testing.T, script []byte) {
		walk(t, script[:min(len(script), 2000)], map[[2]int]int{})
	})
}
