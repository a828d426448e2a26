package audit

import (
	"reflect"
	"slices"
	"testing"

	"stopgate/hist"
	"stopgate/model"
	"stopgate/rules"
	"stopgate/tree"
	"stopgate/wire"
)

// Here is what can't be seen in an answer: no Model lets more be open under a node than it may, so no list of Entries
// shows by what Held holds it.

// P14.1: what is open under a node is held against the greatest Cap since the oldest of it came.
func TestWithin(t *testing.T) {
	under := func(price, left int64, path []int, most ...int64) order {
		return order{price: price, left: left, path: path, most: most}
	}
	for i, w := range []struct {
		open []order
		want bool
	}{
		{nil, true},
		{[]order{under(10, 5, []int{2, 1, 0}, 50, 60, 100)}, true},
		{[]order{under(10, 5, []int{2, 1, 0}, 49, 60, 100)}, false},
		{[]order{under(10, 5, []int{2, 1, 0}, 60, 49, 100)}, false},
		{[]order{under(10, 5, []int{2, 1, 0}, 60, 60, 49)}, false},
		{[]order{under(10, 5, []int{2, 1, 0}, 50, 50, 50)}, true},
		{[]order{under(7, 7, []int{0}, 49)}, true},
		{[]order{under(7, 7, []int{0}, 48)}, false},
		{[]order{under(7, 7, []int{0}, 0)}, false},
		// All that is open under a node counts together, and nothing else does.
		{[]order{under(10, 5, []int{2, 0}, 50, 90), under(10, 4, []int{3, 0}, 40, 90)}, true},
		{[]order{under(10, 5, []int{2, 0}, 50, 89), under(10, 4, []int{3, 0}, 40, 89)}, false},
		{[]order{under(10, 5, []int{1}, 50), under(10, 4, []int{2}, 40)}, true},
		// It is the oldest one that counts: behind it a Cap may have been lowered.
		{[]order{under(10, 5, []int{2, 0}, 50, 90), under(10, 4, []int{3, 0}, 40, 0)}, true},
		{[]order{under(10, 5, []int{2, 0}, 50, 0), under(10, 4, []int{3, 0}, 40, 90)}, false},
		{[]order{under(1, 1, []int{1}, 1), under(10, 5, []int{2, 0}, 50, 90), under(10, 4, []int{3, 0}, 40, 0)}, true},
		{[]order{under(1, 1, []int{3}, 41), under(10, 5, []int{2, 0}, 50, 90), under(10, 4, []int{3, 0}, 40, 0)}, true},
		{[]order{under(1, 1, []int{3}, 40), under(10, 5, []int{2, 0}, 50, 90), under(10, 4, []int{3, 0}, 99, 0)}, false},
		{[]order{under(1<<40, 1<<22, []int{3}, 1<<62)}, true},
		{[]order{under(1<<40, 1<<22, []int{3}, 1<<62-1)}, false},
	} {
		if within(w.open, 4) != w.want {
			t.Error(i)
		}
	}
}

// P14.1: the Entries that took effect, and no other ones, in the order of their Marks; the list stays as it is.
func TestMarked(t *testing.T) {
	l := []hist.Entry{{Begin: 5, Mark: 9, End: 9}, {Begin: 1}, {Begin: 0, Mark: 7}, {Begin: 6, Mark: 8, End: 20}, {Begin: 2, Mark: 30, End: 31}, {}, {Begin: 0, Mark: 1, End: 50}}
	was := slices.Clone(l)
	if got := marked(l); !slices.Equal(got, []hist.Entry{l[6], l[2], l[3], l[0], l[4]}) || !slices.Equal(l, was) {
		t.Errorf("%+v", got)
	}
	if got := marked(nil); len(got) != 0 {
		t.Errorf("%+v", got)
	}
}

// P14.1: of each open order, the oldest first: what is left of it, the nodes that it is under, and the greatest Cap that
// each of these had since it came, with what it had then.
func TestWatch(t *testing.T) {
	c := rules.Config{
		Shards: 2, Rate: 9, Table: 9, Nodes: []tree.Node{{Parent: -1, Cap: 300}, {Parent: 0, Cap: 200}, {Parent: 0, Cap: 150}},
		Accounts: []int{2, 1}, Symbols: []rules.Symbol{{Price: 10, Qty: 50, Worth: 3000, Band: 0.5}},
	}
	m, _ := model.Begin(c)
	w := watch{config: c, model: m}
	come := func(account int, price, qty int64) wire.Msg {
		return wire.Msg{Order: rules.Order{Account: account, Price: price, Qty: qty}}
	}
	limit := func(node int, most int64) wire.Msg { return wire.Msg{Kind: wire.Limit, Node: node, Most: most} }
	first := order{id: 1, price: 9, left: 4, path: []int{1, 0}, most: []int64{200, 300}}
	second := order{id: 0, price: 11, left: 3, path: []int{2, 0}, most: []int64{150, 300}}
	at := func(o order, left int64, most ...int64) order {
		o.left, o.most = left, most
		return o
	}
	for i, s := range []struct {
		o    model.Op
		want []order
	}{
		{model.Op{Msg: wire.Msg{Kind: wire.Kill}}, nil},
		{model.Op{Msg: come(1, 9, 4)}, nil},
		{model.Op{Msg: wire.Msg{Kind: wire.Rearm}}, nil},
		{model.Op{Msg: come(1, 9, 4)}, []order{first}},
		{model.Op{Msg: come(1, 9, 40)}, []order{first}},
		{model.Op{Msg: come(2, 9, 4)}, []order{first}},
		{model.Op{Msg: limit(0, 100)}, []order{first}},
		{model.Op{Msg: come(0, 11, 3)}, []order{first, at(second, 3, 150, 100)}},
		{model.Op{Msg: limit(1, 250)}, []order{at(first, 4, 250, 300), at(second, 3, 150, 100)}},
		{model.Op{Msg: limit(0, 120)}, []order{at(first, 4, 250, 300), at(second, 3, 150, 120)}},
		{model.Op{Msg: wire.Msg{Kind: wire.Fill, Id: 1, Qty: 3}}, []order{at(first, 1, 250, 300), at(second, 3, 150, 120)}},
		{model.Op{Msg: limit(0, 5)}, []order{at(first, 1, 250, 300), at(second, 3, 150, 120)}},
		// What was asked to be cancelled is open yet; a Sweep's message counts for nothing.
		{model.Op{Msg: come(1, 9, 4), Sweep: true, Shard: 1, Epoch: 1}, []order{at(first, 1, 250, 300), at(second, 3, 150, 120)}},
		{model.Op{Msg: limit(0, 900)}, []order{at(first, 1, 250, 900), at(second, 3, 150, 900)}},
		{model.Op{Msg: wire.Msg{Kind: wire.Ack, Id: 1}}, []order{at(second, 3, 150, 900)}},
		{model.Op{Msg: wire.Msg{Kind: wire.Fill, Id: 0, Qty: 3}}, nil},
	} {
		w.do(hist.Entry{Op: s.o})
		if len(w.open)+len(s.want) > 0 && !reflect.DeepEqual(w.open, s.want) {
			t.Errorf("%d: %+v; want %+v", i, w.open, s.want)
		}
	}
}
