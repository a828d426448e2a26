package gate

import (
	"stopgate/api"
	"stopgate/book"
	"stopgate/credit"
	"stopgate/model"
	"stopgate/rules"
	"stopgate/tree"
	"stopgate/wire"
)

// Act is something that is being done.
type Act struct {
	gate   *Gate
	who    int
	place  int      // in the log
	todo   []access // those that it is still to make, as far as that is known
	answer model.Answer
}

// access makes one access; false: it is to be made again, as the latch was another one's.
type access func() bool

// Step: it goes on; Over; Answer: what came of it.
func (a *Act) Step() bool {
	if a.Over() {
		return true
	}
	if a.todo[0]() {
		a.todo = a.todo[1:]
	}
	if len(a.todo) > 0 {
		return false
	}
	a.todo = nil
	a.gate.end(a.place, a.answer)
	return true
}

func (a *Act) Over() bool { return a == nil || len(a.todo) == 0 }

func (a *Act) Answer() model.Answer {
	if a == nil || !a.Over() {
		return model.Answer{}
	}
	return a.answer
}

func (a *Act) then(l ...access) { a.todo = append(a.todo, l...) }

func (a *Act) take(latch int) access {
	return func() bool { return a.gate.cells.Take(a.who, latch) }
}

func (a *Act) free(latch int) access {
	return func() bool {
		a.gate.cells.Free(a.who, latch)
		return true
	}
}

func (a *Act) load(word int, see func(v int64)) access {
	return func() bool {
		see(a.gate.cells.Load(word))
		return true
	}
}

func (a *Act) store(word int, v int64) access {
	return func() bool {
		a.gate.cells.Store(word, v)
		return true
	}
}

// after does with an access, once it is made, what hangs on it.
func after(first access, do func()) access {
	return func() bool {
		if !first() {
			return false
		}
		do()
		return true
	}
}

// look is at the switch: with it takes effect what has that place in the log, by what the worker has seen behind its
// latches, which nobody changes meanwhile, and by how the switch is now.
func (a *Act) look(place int, decide func(now position)) access {
	return a.load(switchWord, func(v int64) {
		a.gate.mark(place)
		decide(positionOf(v))
	})
}

// send lets something go out. Whoever does has the latch of its shard from its Mark on, so that what goes out of one
// shard is in the order of the Marks.
func (a *Act) send(o model.Out) {
	g := a.gate
	a.then(after(a.take(queueLatch), func() {
		g.out = append(g.out, o)
		g.at = append(g.at, g.cells.Time())
	}), a.free(queueLatch))
}

func (a *Act) plan(m wire.Msg) {
	if !wire.Right(m) {
		a.refuse(api.Malformed)
		return
	}
	switch m.Kind {
	case wire.Order:
		a.order(m.Order)
	case wire.Cancel:
		a.cancel(m.Id)
	case wire.Fill:
		a.settle(m.Id, func(b book.Book) (book.Book, api.Code) { return book.Fill(b, m.Id, m.Qty) })
	case wire.Ack:
		a.settle(m.Id, func(b book.Book) (book.Book, api.Code) { return book.Ack(b, m.Id) })
	case wire.Kill:
		a.kill()
	case wire.Rearm:
		a.rearm()
	default:
		a.limit(m.Node, m.Most)
	}
}

// refuse is for what nobody can change any more: it takes effect whenever the switch is looked at.
func (a *Act) refuse(code api.Code) {
	a.then(a.look(a.place, func(position) { a.answer.Code = code }))
}

// purse is what an account's orders are reserved under: the nodes from its own up, and what they had when they were
// looked at.
type purse struct {
	leaf int
	path []int
	seen credit.State
}

func (g *Gate) purseOf(account int) *purse {
	leaf := g.config.Accounts[account]
	return &purse{leaf: leaf, path: tree.Path(g.config.Nodes, leaf), seen: credit.Begin(g.config.Nodes)}
}

func (a *Act) takeNodes(p *purse) {
	for _, n := range p.path {
		a.then(a.take(a.gate.nodeLatch(n)))
	}
}

func (a *Act) seeUsed(p *purse) {
	for _, n := range p.path {
		a.then(a.load(usedWord(n), func(v int64) { p.seen.Used[n] = v }))
	}
}

func (a *Act) seeCaps(p *purse) {
	for _, n := range p.path {
		a.then(a.load(capWord(n), func(v int64) { p.seen.Nodes[n].Cap = v }))
	}
}

func (a *Act) putUsed(p *purse) {
	for _, n := range p.path {
		a.then(a.store(usedWord(n), p.seen.Used[n]))
	}
}

func (a *Act) freeNodes(p *purse) {
	for _, n := range p.path {
		a.then(a.free(a.gate.nodeLatch(n)))
	}
}

func (a *Act) order(o rules.Order) {
	g := a.gate
	code, worth := rules.Look(g.config, o)
	if code != api.OK {
		a.then(a.look(a.place, func(now position) { a.answer.Code = unlessOff(now, code) }))
		return
	}
	shard := rules.Shard(g.config, o.Account)
	p := g.purseOf(o.Account)
	a.then(a.take(shardLatch(shard)))
	a.takeNodes(p)
	a.seeUsed(p)
	a.seeCaps(p)
	a.then(a.look(a.place, func(now position) {
		a.answer = g.come(o, worth, p, now)
		if a.answer.Code == api.OK {
			a.putUsed(p)
		}
		a.freeNodes(p)
		if a.answer.Code == api.OK {
			a.send(model.Out{Kind: model.New, Id: a.answer.Id})
		}
		a.then(a.free(shardLatch(shard)))
	}))
}

func unlessOff(now position, code api.Code) api.Code {
	if now.off {
		return api.Killed
	}
	return code
}

// come: if nothing is wrong with an order that rules.Look has let through, it is in its Book, and p has its worth.
func (g *Gate) come(o rules.Order, worth int64, p *purse, now position) model.Answer {
	b := &g.books[rules.Shard(g.config, o.Account)]
	code := unlessOff(now, book.Look(g.config, *b, o))
	if code != api.OK {
		return model.Answer{Code: code}
	}
	reserved, code, _ := credit.Reserve(p.seen, p.leaf, worth)
	if code != api.OK {
		return model.Answer{Code: code}
	}
	var id int
	*b, id = book.Add(g.config, *b, o, now.epoch)
	p.seen = reserved
	return model.Answer{Id: id}
}

func (a *Act) cancel(id int) {
	g := a.gate
	shard := g.shardOf(id)
	a.then(a.take(shardLatch(shard)), a.look(a.place, func(position) {
		b, code := book.Cancel(g.books[shard], id)
		g.books[shard], a.answer.Code = b, code
		if code == api.OK {
			a.send(model.Out{Kind: model.Cancel, Id: id})
		}
		a.then(a.free(shardLatch(shard)))
	}))
}

// settle is a Fill or an Ack, by what it makes of the Book: what isn't left any more of the order is released.
func (a *Act) settle(id int, change func(book.Book) (book.Book, api.Code)) {
	g := a.gate
	shard := g.shardOf(id)
	a.then(after(a.take(shardLatch(shard)), func() {
		b, code := change(g.books[shard])
		if code != api.OK {
			a.refuse(code)
			a.then(a.free(shardLatch(shard)))
			return
		}
		was, _ := book.Find(g.books[shard], id)
		is, _ := book.Find(b, id) // of one that isn't open any more nothing is left
		p := g.purseOf(was.Order.Account)
		a.takeNodes(p)
		a.seeUsed(p)
		a.then(a.look(a.place, func(position) {
			g.books[shard] = b
			// It is less than what was reserved when it came, so it is a number, and is there.
			p.seen, _ = credit.Release(p.seen, p.leaf, was.Order.Price*(was.Left-is.Left))
			a.putUsed(p)
			a.freeNodes(p)
			a.then(a.free(shardLatch(shard)))
		}))
	}))
}

func (g *Gate) shardOf(id int) int { return id % len(g.books) }

func (a *Act) kill() {
	a.then(a.take(switchLatch), a.load(switchWord, func(v int64) {
		epoch := positionOf(v).epoch
		a.turn(position{epoch: epoch, off: true}, func() { a.sweep(0, epoch) })
	}))
}

func (a *Act) rearm() {
	a.then(a.take(switchLatch), a.load(switchWord, func(v int64) {
		now := positionOf(v)
		if !now.off {
			a.gate.mark(a.place)
			a.answer.Code = api.State
			a.then(a.free(switchLatch))
			return
		}
		a.answer.Id = int(now.epoch + 1)
		a.turn(position{epoch: now.epoch + 1}, func() {})
	}))
}

// turn turns the switch, whose latch is the worker's, frees it, and goes on with what is to be done then.
func (a *Act) turn(to position, then func()) {
	mark := func() { a.gate.mark(a.place) }
	a.then(after(a.store(switchWord, to.word()), mark), after(a.free(switchLatch), then))
}

// sweep goes on with the shards of a Kill from this one on. Whoever let an order come ahead of the Kill has its shard's
// latch till that has gone out, so behind the Sweeps none goes out any more.
func (a *Act) sweep(shard int, epoch int64) {
	g := a.gate
	if !has(g.books, shard) {
		a.answer.Id = int(epoch)
		return
	}
	place := g.begin(a.who, model.Op{Sweep: true, Shard: shard, Epoch: epoch})
	a.then(a.take(shardLatch(shard)), a.look(place, func(position) {
		b, ids := book.Sweep(g.books[shard], epoch)
		g.books[shard] = b
		for _, id := range ids {
			a.send(model.Out{Kind: model.Cancel, Id: id})
		}
		a.then(after(a.free(shardLatch(shard)), func() {
			g.end(place, model.Answer{Id: len(ids)})
			a.sweep(shard+1, epoch)
		}))
	}))
}

func (a *Act) limit(node int, most int64) {
	g := a.gate
	// Whether there is such a node and such a cap hangs on nothing that changes.
	if _, code := credit.Limit(credit.Begin(g.config.Nodes), node, most); code != api.OK {
		a.refuse(code)
		return
	}
	mark := func() { g.mark(a.place) }
	a.then(a.take(g.nodeLatch(node)), after(a.store(capWord(node), most), mark), a.free(g.nodeLatch(node)))
}
