package audit

import (
	"cmp"
	"slices"

	"stopgate/api"
	"stopgate/hist"
	"stopgate/model"
	"stopgate/rules"
	"stopgate/tree"
	"stopgate/wire"
)

func Held(c rules.Config, workers int, l []hist.Entry) bool {
	m, code := model.Begin(c)
	if code != api.OK || !hist.Right(workers, l) {
		return false
	}
	w := watch{config: c, model: m}
	for _, e := range marked(l) {
		w.do(e)
		if !within(w.open, len(c.Nodes)) {
			return false
		}
	}
	return true
}

// marked is the Entries that took effect, in the order of their Marks.
func marked(l []hist.Entry) []hist.Entry {
	l = slices.DeleteFunc(slices.Clone(l), func(e hist.Entry) bool { return e.Mark == 0 })
	slices.SortFunc(l, func(a, b hist.Entry) int { return cmp.Compare(a.Mark, b.Mark) })
	return l
}

// watch goes along with a Model.
type watch struct {
	config rules.Config
	model  *model.Model
	open   []order // the oldest first, which Ids don't tell of orders of two shards
}

// order is an open one.
type order struct {
	id          int
	price, left int64
	path        []int   // the nodes that it is under
	most        []int64 // of each of these the greatest Cap that it had since the order came
}

func (w *watch) do(e hist.Entry) {
	a, _ := w.model.Do(e.Op)
	if is(e, wire.Order) && a.Code == api.OK {
		o := e.Op.Msg.Order
		path := tree.Path(w.config.Nodes, w.config.Accounts[o.Account])
		w.open = append(w.open, order{id: a.Id, price: o.Price, path: path, most: make([]int64, len(path))})
	}
	w.look()
}

// look is at what is left of the orders, and at the Caps of now.
func (w *watch) look() {
	left, nodes := w.left(), w.model.Credit().Nodes
	open := w.open[:0]
	for _, o := range w.open {
		if o.left = left[o.id]; o.left == 0 {
			continue
		}
		for i, n := range o.path {
			o.most[i] = max(o.most[i], nodes[n].Cap)
		}
		open = append(open, o)
	}
	w.open = open
}

// left is how much is left of each open order, by its Id.
func (w *watch) left() map[int]int64 {
	left := make(map[int]int64, len(w.open))
	for shard := range w.config.Shards {
		for _, e := range w.model.Book(shard).Open {
			left[e.Id] = e.Left
		}
	}
	return left
}

// within: is what is open under no node above the greatest Cap that it had since the oldest of that came?
func within(open []order, nodes int) bool {
	under, most := make([]int64, nodes), make([]int64, nodes)
	for _, o := range open {
		for i, n := range o.path {
			if under[n] == 0 { // so this one is the oldest
				most[n] = o.most[i]
			}
			// A Model has no more open than is reserved, and that is no more than MaxCap.
			under[n] += o.price * o.left
		}
	}
	for n := range nodes {
		if under[n] > most[n] {
			return false
		}
	}
	return true
}
