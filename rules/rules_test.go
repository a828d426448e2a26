package rules_test

import (
	"math"
	"math/big"
	"slices"
	"testing"

	"stopgate/api"
	"stopgate/band"
	"stopgate/rules"
	"stopgate/tree"
)

const most = 1 << 40 // of a price, and of a quantity

// config is one that may be: a firm, a desk and two traders; three accounts; three symbols.
func config() rules.Config {
	return rules.Config{
		Shards: 2, Window: 2, Rate: 3, Table: 4,
		Nodes:    []tree.Node{{Parent: -1, Cap: 1000}, {Parent: 0, Cap: 500}, {Parent: 1, Cap: 200}, {Parent: 1, Cap: 100}},
		Accounts: []int{2, 3, 0},
		Symbols: []rules.Symbol{
			{Price: 100, Qty: 50, Worth: 3000, Band: 0.1},
			{Price: most, Qty: most, Worth: math.MaxInt64, Band: math.Inf(1)},
			{Price: 7, Qty: 1, Worth: 0, Band: 0},
		},
	}
}

func clone(c rules.Config) rules.Config {
	c.Nodes, c.Accounts, c.Symbols = slices.Clone(c.Nodes), slices.Clone(c.Accounts), slices.Clone(c.Symbols)
	return c
}

// fault is one that a Config may have: what Check says of it, and at which place of its order (a greater one: later).
type fault struct {
	rank int
	code api.Code
	make func(c *rules.Config)
}

func numberFaults() []fault {
	var l []fault
	add := func(set func(c *rules.Config, n int), wrong ...int) {
		for _, n := range append(wrong, -1, -2, math.MinInt, math.MaxInt, 1<<32+1, math.MinInt+1) {
			l = append(l, fault{1, api.Malformed, func(c *rules.Config) { set(c, n) }})
		}
	}
	add(func(c *rules.Config, n int) { c.Shards = n }, 0, 5)
	add(func(c *rules.Config, n int) { c.Window = n }, 17)
	add(func(c *rules.Config, n int) { c.Rate = n }, 0, 1001)
	add(func(c *rules.Config, n int) { c.Table = n }, 0, 65)
	return l
}

func nodeFaults() []fault {
	var l []fault
	for _, x := range []struct {
		code  api.Code
		nodes []tree.Node
	}{
		{api.Malformed, nil},
		{api.Malformed, []tree.Node{}},
		{api.Full, make([]tree.Node, 33)},
		{api.Node, []tree.Node{{Parent: -2}}},
		{api.Node, []tree.Node{{Parent: -1}, {Parent: 4}, {Parent: 0}, {Parent: 0}}},
		{api.Malformed, []tree.Node{{Parent: -1}, {Parent: 0, Cap: -1}, {Parent: 0}, {Parent: 0}}},
		{api.Malformed, []tree.Node{{Parent: -1}, {Parent: 0}, {Parent: 0}, {Parent: 0, Cap: 1<<62 + 1}}},
		{api.State, []tree.Node{{Parent: 0}, {Parent: 0}, {Parent: 0}, {Parent: 0}}},
		{api.State, []tree.Node{{Parent: -1}, {Parent: 0}, {Parent: 1}, {Parent: 2}}},
	} {
		l = append(l, fault{2, x.code, func(c *rules.Config) { c.Nodes = x.nodes }})
	}
	return l
}

func accountFaults() []fault {
	l := []fault{
		{3, api.Account, func(c *rules.Config) { c.Accounts = nil }},
		{3, api.Account, func(c *rules.Config) { c.Accounts = []int{} }},
		{3, api.Account, func(c *rules.Config) { c.Accounts = make([]int, 33) }},
		{3, api.Account, func(c *rules.Config) { c.Accounts = make([]int, 100) }},
	}
	for _, n := range []int{-1, -2, 4, 5, 32, math.MinInt, math.MaxInt, 1 << 32} {
		for _, at := range []int{0, 1, 2} {
			l = append(l, fault{4, api.Node, func(c *rules.Config) {
				if at < len(c.Accounts) {
					c.Accounts[at] = n
				}
			}})
		}
	}
	return l
}

func symbolFaults() []fault {
	l := []fault{
		{5, api.Symbol, func(c *rules.Config) { c.Symbols = nil }},
		{5, api.Symbol, func(c *rules.Config) { c.Symbols = []rules.Symbol{} }},
		{5, api.Symbol, func(c *rules.Config) { c.Symbols = slices.Repeat(config().Symbols[:1], 17) }},
		{5, api.Symbol, func(c *rules.Config) { c.Symbols = make([]rules.Symbol, 100) }},
	}
	add := func(spoil func(s *rules.Symbol)) {
		for _, at := range []int{0, 1, 2} {
			l = append(l, fault{6, api.Malformed, func(c *rules.Config) {
				if at < len(c.Symbols) {
					spoil(&c.Symbols[at])
				}
			}})
		}
	}
	for _, n := range []int64{0, -1, most + 1, math.MaxInt64, math.MinInt64} {
		add(func(s *rules.Symbol) { s.Price = n })
		add(func(s *rules.Symbol) { s.Qty = n })
	}
	for _, n := range []int64{-1, math.MinInt64} {
		add(func(s *rules.Symbol) { s.Worth = n })
	}
	for _, f := range []float64{math.NaN(), math.Inf(-1), -0.1, -math.SmallestNonzeroFloat64} {
		add(func(s *rules.Symbol) { s.Band = f })
	}
	return l
}

func faults() []fault {
	return slices.Concat(numberFaults(), nodeFaults(), accountFaults(), symbolFaults())
}

// P5.1: each number of a Config at the edges of what it may be, from inside.
func TestCheckWithinLimits(t *testing.T) {
	for i, set := range []func(c *rules.Config){
		func(c *rules.Config) {},
		func(c *rules.Config) { c.Shards = 1 },
		func(c *rules.Config) { c.Shards = 3 },
		func(c *rules.Config) { c.Shards = 4 },
		func(c *rules.Config) { c.Window = 0 },
		func(c *rules.Config) { c.Window = 1 },
		func(c *rules.Config) { c.Window = 16 },
		func(c *rules.Config) { c.Rate = 1 },
		func(c *rules.Config) { c.Rate = 1000 },
		func(c *rules.Config) { c.Table = 1 },
		func(c *rules.Config) { c.Table = 64 },
		func(c *rules.Config) { c.Nodes = slices.Repeat([]tree.Node{{Parent: -1}}, 32) },
		func(c *rules.Config) { c.Nodes[3].Cap = 1 << 62 },
		func(c *rules.Config) { c.Nodes[0].Cap = 0 },
		func(c *rules.Config) { c.Accounts = []int{0} },
		func(c *rules.Config) { c.Accounts = slices.Repeat([]int{3}, 32) },
		func(c *rules.Config) { c.Accounts = []int{0, 1, 2, 3} },
		func(c *rules.Config) { c.Symbols = c.Symbols[:1] },
		func(c *rules.Config) { c.Symbols = slices.Repeat(c.Symbols[:1], 16) },
		func(c *rules.Config) { c.Symbols[0] = rules.Symbol{Price: 1, Qty: 1, Worth: 0, Band: 0} },
		func(c *rules.Config) {
			c.Symbols[2] = rules.Symbol{Price: most, Qty: most, Worth: math.MaxInt64, Band: 1}
		},
		func(c *rules.Config) { c.Symbols[1].Band = math.Copysign(0, -1) },
		func(c *rules.Config) { c.Symbols[1].Band = math.MaxFloat64 },
		func(c *rules.Config) { c.Symbols[1].Band = math.SmallestNonzeroFloat64 },
		func(c *rules.Config) {
			*c = rules.Config{Shards: 1, Rate: 1, Table: 1, Nodes: []tree.Node{{Parent: -1}}, Accounts: []int{0}, Symbols: c.Symbols[:1]}
		},
	} {
		c := config()
		set(&c)
		if k := rules.Check(c); k != api.OK {
			t.Errorf("%d: %v: %v", i, c, k.Word())
		}
	}
}

// P5.1: each number of a Config beside those edges, and far off.
func TestCheckFaults(t *testing.T) {
	for i, f := range faults() {
		c := config()
		f.make(&c)
		if k := rules.Check(c); k != f.code {
			t.Errorf("%d: %v: %v; want %v", i, c, k.Word(), f.code.Word())
		}
	}
	if k := rules.Check(rules.Config{}); k != api.Malformed {
		t.Error("of nothing at all:", k.Word())
	}
}

// P5.1: of two faults the one that the chapter names first.
func TestCheckOrder(t *testing.T) {
	l := faults()
	for i, first := range l {
		for j, second := range l {
			if first.rank >= second.rank {
				continue
			}
			c := config()
			first.make(&c)
			c = clone(c)
			second.make(&c)
			if k := rules.Check(c); k != first.code {
				t.Errorf("%d and %d: %v: %v; want %v", i, j, c, k.Word(), first.code.Word())
			}
		}
	}
}

// look works the chapter's words out one behind the other, by numbers without an end.
func look(c rules.Config, o rules.Order) (api.Code, int64) {
	if o.Price < 1 || o.Qty < 1 || o.Number < 0 || o.Second < 0 {
		return api.Malformed, 0
	}
	if o.Account < 0 || o.Account >= len(c.Accounts) {
		return api.Account, 0
	}
	if o.Symbol < 0 || o.Symbol >= len(c.Symbols) {
		return api.Symbol, 0
	}
	s := c.Symbols[o.Symbol]
	worth := new(big.Int).Mul(big.NewInt(o.Price), big.NewInt(o.Qty))
	switch {
	case o.Qty > s.Qty:
		return api.Size, 0
	case !worth.IsInt64():
		return api.Overflow, 0
	case worth.Cmp(big.NewInt(s.Worth)) > 0:
		return api.Notional, 0
	case !band.Within(s.Price, o.Price, s.Band):
		return api.Collar, 0
	}
	return api.OK, worth.Int64()
}

func hold(t *testing.T, c rules.Config, o rules.Order) {
	t.Helper()
	want, wantWorth := look(c, o)
	if k, worth := rules.Look(c, o); k != want || worth != wantWorth {
		t.Errorf("Look of %v: %v, %d; want %v, %d", o, k.Word(), worth, want.Word(), wantWorth)
	}
}

// P5.1, by what the document writes out, and by numbers beside each edge.
func TestLookExamples(t *testing.T) {
	for i, x := range []struct {
		o     rules.Order
		code  api.Code
		worth int64
	}{
		{rules.Order{Price: 100, Qty: 30}, api.OK, 3000},
		{rules.Order{Price: 100, Qty: 1, Account: 2, Sell: true}, api.OK, 100},
		{rules.Order{Price: 100, Qty: 30, Number: math.MaxInt64, Second: math.MaxInt64}, api.OK, 3000},
		{rules.Order{Price: 90, Qty: 1}, api.OK, 90},
		{rules.Order{Price: 89, Qty: 1}, api.Collar, 0},
		{rules.Order{Price: 110, Qty: 1}, api.OK, 110},
		{rules.Order{Price: 111, Qty: 1}, api.Collar, 0},
		{rules.Order{Price: 1, Qty: 50}, api.Collar, 0},
		{rules.Order{Price: 1, Qty: 51}, api.Size, 0},
		{rules.Order{Price: 100, Qty: 31}, api.Notional, 0},
		{rules.Order{Price: 3001, Qty: 1}, api.Notional, 0}, // ahead of Collar
		{rules.Order{Price: 3000, Qty: 1}, api.Collar, 0},
		{rules.Order{Price: math.MaxInt64, Qty: 1}, api.Notional, 0},
		{rules.Order{Price: math.MaxInt64, Qty: 2}, api.Overflow, 0},
		{rules.Order{Price: math.MaxInt64, Qty: 51}, api.Size, 0}, // ahead of Overflow
		{rules.Order{Price: 1 << 62, Qty: 2}, api.Overflow, 0},
		{rules.Order{Price: 1 << 60, Qty: 16}, api.Overflow, 0}, // the product would go round to 0
		{rules.Order{Symbol: 1, Price: most, Qty: 1<<23 - 1}, api.OK, most * (1<<23 - 1)},
		{rules.Order{Symbol: 1, Price: most, Qty: 1 << 23}, api.Overflow, 0},
		{rules.Order{Symbol: 1, Price: 1, Qty: most}, api.OK, most},
		{rules.Order{Symbol: 1, Price: 1, Qty: most + 1}, api.Size, 0},
		{rules.Order{Symbol: 1, Price: most, Qty: most}, api.Overflow, 0},
		{rules.Order{Symbol: 1, Price: most + 1, Qty: 1}, api.Collar, 0}, // nothing is above 2^40
		{rules.Order{Symbol: 1, Price: math.MaxInt64, Qty: 1}, api.Collar, 0},
		{rules.Order{Symbol: 2, Price: 7, Qty: 1}, api.Notional, 0}, // nothing may be worth that little
		{rules.Order{Symbol: 3, Price: 7, Qty: 1}, api.Symbol, 0},
		{rules.Order{Symbol: -1, Price: 7, Qty: 1}, api.Symbol, 0},
		{rules.Order{Symbol: 3, Price: 7, Qty: 99}, api.Symbol, 0}, // ahead of Size
		{rules.Order{Account: 3, Price: 100, Qty: 1}, api.Account, 0},
		{rules.Order{Account: -1, Price: 100, Qty: 1}, api.Account, 0},
		{rules.Order{Account: 3, Symbol: 3, Price: 100, Qty: 1}, api.Account, 0}, // ahead of Symbol
		{rules.Order{Account: 3, Price: 0, Qty: 1}, api.Malformed, 0},            // ahead of Account
		{rules.Order{Price: 0, Qty: 1}, api.Malformed, 0},
		{rules.Order{Price: -1, Qty: -1}, api.Malformed, 0},
		{rules.Order{Price: 100, Qty: 0}, api.Malformed, 0},
		{rules.Order{Price: 100, Qty: math.MinInt64}, api.Malformed, 0},
		{rules.Order{Price: 100, Qty: 1, Number: -1}, api.Malformed, 0},
		{rules.Order{Price: 100, Qty: 1, Second: -1}, api.Malformed, 0},
		{rules.Order{Price: 100, Qty: 1, Number: math.MinInt64}, api.Malformed, 0},
		{rules.Order{}, api.Malformed, 0},
	} {
		if k, worth := rules.Look(config(), x.o); k != x.code || worth != x.worth {
			t.Errorf("%d: %v: %v, %d; want %v, %d", i, x.o, k.Word(), worth, x.code.Word(), x.worth)
		}
		if k, worth := look(config(), x.o); k != x.code || worth != x.worth {
			t.Errorf("%d: the test itself works out %v, %d", i, k.Word(), worth)
		}
	}
	c := config()
	c.Symbols[0].Band = 0.05
	if k, worth := rules.Look(c, rules.Order{Price: 106, Qty: 1}); k != api.Collar || worth != 0 {
		t.Error("the chapter's example:", k.Word(), worth)
	}
}

// P5.1: which of several faults of an order is told, of all that its fields may have at once.
func TestLookOfAll(t *testing.T) {
	c := config()
	places := []int{-1, 0, 1, 2, 3, math.MinInt, math.MaxInt}
	prices := []int64{math.MinInt64, -1, 0, 1, 6, 7, 8, 59, 60, 61, 89, 90, 100, 110, 111, 3000, 3001, most - 1, most, most + 1, 1 << 62, math.MaxInt64}
	amounts := []int64{math.MinInt64, -1, 0, 1, 2, 27, 28, 50, 51, 1<<23 - 1, 1 << 23, most, most + 1, math.MaxInt64}
	numbers := [][2]int64{{0, 0}, {5, 6}, {-1, 0}, {0, -1}, {math.MaxInt64, math.MaxInt64}, {math.MinInt64, 0}, {0, math.MinInt64}}
	for _, account := range places {
		for _, symbol := range places {
			for _, price := range prices {
				for _, qty := range amounts {
					for i, n := range numbers {
						hold(t, c, rules.Order{Account: account, Symbol: symbol, Sell: i%2 == 1, Price: price, Qty: qty, Number: n[0], Second: n[1]})
					}
				}
			}
		}
	}
}

// P5.1: an order worth just as much as may be, and one more; and with the greatest quantity that may be, and one more.
func TestLookAtTheEdges(t *testing.T) {
	for _, price := range []int64{1, 2, 3, 99, 100, 101, 1 << 20, most - 1, most} {
		for _, qty := range []int64{1, 2, 3, 50, 1 << 20, 1<<23 - 1, 1 << 23, most - 1, most} {
			exact := new(big.Int).Mul(big.NewInt(price), big.NewInt(qty))
			worth := int64(math.MaxInt64)
			if exact.IsInt64() {
				worth = exact.Int64()
			}
			for _, above := range []int64{worth - 1, worth} {
				for _, size := range []int64{qty - 1, qty, most} {
					for _, f := range []float64{0, math.Copysign(0, -1), 0.1, math.Inf(1)} {
						c := config()
						c.Symbols[1] = rules.Symbol{Price: 100, Qty: max(size, 1), Worth: above, Band: f}
						hold(t, c, rules.Order{Symbol: 1, Price: price, Qty: qty})
					}
				}
			}
		}
	}
}

// P5.1: the account's place is divided by the number of shards; there is no other account.
func TestShard(t *testing.T) {
	for shards := 1; shards <= 4; shards++ {
		for _, length := range []int{1, 2, 3, 5, 31, 32} {
			c := config()
			c.Shards, c.Accounts = shards, make([]int, length)
			for account := range length {
				want := account
				for want >= shards {
					want -= shards
				}
				if n := rules.Shard(c, account); n != want {
					t.Errorf("of %d shards account %d is of %d; want %d", shards, account, n, want)
				}
			}
			for _, account := range []int{-1, -2, -4, length, length + 1, math.MinInt, math.MaxInt} {
				if n := rules.Shard(c, account); n != -1 {
					t.Errorf("of %d shards account %d of %d is of %d", shards, account, length, n)
				}
			}
		}
	}
}

// P5.1: orders are compared by ==, whole.
func TestOrdersCompare(t *testing.T) {
	o := rules.Order{Account: 1, Symbol: 2, Sell: true, Price: 3, Qty: 4, Number: 5, Second: 6}
	for i, change := range []func(o *rules.Order){
		func(o *rules.Order) { o.Account++ }, func(o *rules.Order) { o.Symbol++ }, func(o *rules.Order) { o.Sell = false },
		func(o *rules.Order) { o.Price++ }, func(o *rules.Order) { o.Qty++ }, func(o *rules.Order) { o.Number++ }, func(o *rules.Order) { o.Second++ },
	} {
		p := o
		if p != o {
			t.Error("an order isn't the same as itself")
		}
		if change(&p); p == o {
			t.Error(i, "is the same")
		}
	}
}

// P5.2: what is handed in isn't changed, its spare room neither.
func TestHandedInStays(t *testing.T) {
	for i, f := range append(faults(), fault{make: func(c *rules.Config) {}}) {
		c := config()
		f.make(&c)
		c.Nodes = append(c.Nodes, tree.Node{Parent: 55, Cap: 66})
		c.Accounts = append(c.Accounts, 77)
		c.Symbols = append(c.Symbols, rules.Symbol{Price: 88})
		nodes, accounts, symbols := slices.Clone(c.Nodes), slices.Clone(c.Accounts), slices.Clone(c.Symbols)
		in := c
		in.Nodes, in.Accounts, in.Symbols = c.Nodes[:len(nodes)-1], c.Accounts[:len(accounts)-1], c.Symbols[:len(symbols)-1]
		rules.Check(in)
		for account := -1; account < 5; account++ {
			rules.Look(in, rules.Order{Account: account, Price: 100, Qty: 1})
			rules.Look(in, rules.Order{Symbol: account, Price: 7, Qty: 60})
			rules.Shard(in, account)
		}
		sameSymbols := slices.EqualFunc(c.Symbols, symbols, func(a, b rules.Symbol) bool {
			return a.Price == b.Price && a.Qty == b.Qty && a.Worth == b.Worth && math.Float64bits(a.Band) == math.Float64bits(b.Band)
		})
		if !slices.Equal(c.Nodes, nodes) || !slices.Equal(c.Accounts, accounts) || !sameSymbols {
			t.Errorf("%d: what was handed in is now %v", i, c)
		}
	}
}

// P5.2: nothing is kept: each call answers of the Config as it is then.
func TestNothingIsKept(t *testing.T) {
	c, o := config(), rules.Order{Price: 100, Qty: 30}
	if k, worth := rules.Look(c, o); rules.Check(c) != api.OK || k != api.OK || worth != 3000 || rules.Shard(c, 2) != 0 {
		t.Fatal(k.Word(), worth)
	}
	c.Symbols[0].Worth = 2999
	if k, worth := rules.Look(c, o); k != api.Notional || worth != 0 {
		t.Error(k.Word(), worth)
	}
	c.Symbols[0].Qty = 29
	if k, _ := rules.Look(c, o); k != api.Size {
		t.Error(k.Word())
	}
	c.Accounts[1] = 9
	if k := rules.Check(c); k != api.Node {
		t.Error(k.Word())
	}
	c.Shards, c.Accounts = 3, c.Accounts[:3]
	if n := rules.Shard(c, 2); n != 2 {
		t.Error(n)
	}
	if k, worth := rules.Look(config(), o); k != api.OK || worth != 3000 {
		t.Error(k.Word(), worth)
	}
}

// P1: of Configs with which something is wrong, of two things at once too, each call ends and none panics.
func TestAnyConfig(t *testing.T) {
	orders := []rules.Order{{}, {Price: 1, Qty: 1}, {Price: math.MaxInt64, Qty: math.MaxInt64, Number: math.MaxInt64, Second: math.MaxInt64}}
	for _, n := range []int{-1, 1, 2, 16, 99, math.MinInt, math.MaxInt} {
		orders = append(orders, rules.Order{Account: n, Price: 1, Qty: 1}, rules.Order{Symbol: n, Price: 1, Qty: 1}, rules.Order{Account: n, Symbol: n, Price: 100, Qty: 7})
	}
	ask := func(c rules.Config) {
		rules.Check(c)
		for _, o := range orders {
			rules.Look(c, o)
			rules.Shard(c, o.Account)
		}
	}
	l := faults()
	for _, first := range l {
		for _, second := range l {
			c := config()
			first.make(&c)
			c = clone(c)
			second.make(&c)
			ask(c)
		}
	}
	ask(rules.Config{})
	ask(rules.Config{Accounts: make([]int, 100000), Nodes: make([]tree.Node, 100000), Symbols: make([]rules.Symbol, 100000)})
	for _, shards := range []int{math.MinInt, -3, -1, 0, 5, math.MaxInt} {
		ask(rules.Config{Shards: shards, Accounts: make([]int, 50), Symbols: make([]rules.Symbol, 5)})
	}
}

// FuzzRules goes on from the seeds by: go test -fuzz FuzzRules ./rules
func FuzzRules(f *testing.F) {
	f.Add(2, 3, int64(100), int64(50), int64(3000), math.Float64bits(0.1), 1, 0, int64(110), int64(20), int64(1), int64(2))
	f.Add(4, 32, int64(most), int64(most), int64(math.MaxInt64), math.Float64bits(math.Inf(1)), 31, 0, int64(most), int64(1<<23), int64(0), int64(0))
	f.Add(0, 0, int64(0), int64(-1), int64(-1), math.Float64bits(math.NaN()), -1, -1, int64(math.MaxInt64), int64(2), int64(-1), int64(-1))
	f.Fuzz(func(t *testing.T, shards, accounts int, price, qty, worth int64, bits uint64, account, symbol int, at, amount, number, second int64) {
		accounts = max(0, accounts%40)
		s := rules.Symbol{Price: price, Qty: qty, Worth: worth, Band: math.Float64frombits(bits)}
		c := rules.Config{Shards: shards, Rate: 1, Table: 1, Nodes: []tree.Node{{Parent: -1}}, Accounts: make([]int, accounts), Symbols: []rules.Symbol{s}}
		want := api.OK
		switch {
		case shards < 1 || shards > 4:
			want = api.Malformed
		case accounts < 1 || accounts > 32:
			want = api.Account
		case price < 1 || price > most || qty < 1 || qty > most || worth < 0 || math.IsNaN(s.Band) || s.Band < 0:
			want = api.Malformed
		}
		if k := rules.Check(c); k != want {
			t.Errorf("Check of %v: %v; want %v", c, k.Word(), want.Word())
		}
		o := rules.Order{Account: account, Symbol: symbol, Price: at, Qty: amount, Number: number, Second: second}
		if want != api.OK {
			rules.Look(c, o)
			rules.Shard(c, account)
			return
		}
		hold(t, c, o)
		if n := rules.Shard(c, account); account < 0 || account >= accounts {
			if n != -1 {
				t.Errorf("account %d of %d is of shard %d", account, accounts, n)
			}
		} else if n < 0 || n >= shards || (account-n)%shards != 0 {
			t.Errorf("of %d shards account %d is of %d", shards, account, n)
		}
	})
}
