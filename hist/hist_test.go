package hist_test

import (
	"math"
	"math/rand"
	"slices"
	"testing"

	"stopgate/api"
	"stopgate/hist"
	"stopgate/model"
	"stopgate/rules"
	"stopgate/tree"
	"stopgate/wire"
)

// config is one in which what is refused is refused by the switch, the numbers of accounts, or the credit.
func config(shards int) rules.Config {
	return rules.Config{
		Shards: shards, Window: 4, Rate: 1000, Table: 64, Nodes: []tree.Node{{Parent: -1, Cap: 2000}, {Parent: 0, Cap: 700}},
		Accounts: []int{1, 0, 0, 1}, Symbols: []rules.Symbol{{Price: 10, Qty: 50, Worth: 3000, Band: 0.5}},
	}
}

func order(account int, number int64) model.Op {
	return model.Op{Msg: wire.Msg{Order: rules.Order{Account: account, Price: 10, Qty: 5, Number: number}}}
}

func cancel(id int) model.Op { return model.Op{Msg: wire.Msg{Kind: wire.Cancel, Id: id}} }

func kill() model.Op  { return model.Op{Msg: wire.Msg{Kind: wire.Kill}} }
func rearm() model.Op { return model.Op{Msg: wire.Msg{Kind: wire.Rearm}} }

func sweep(shard int, epoch int64) model.Op {
	return model.Op{Sweep: true, Shard: shard, Epoch: epoch}
}

func ok(id int) model.Answer { return model.Answer{Id: id} }

func no(code api.Code) model.Answer { return model.Answer{Code: code} }

// done is an Entry of worker 0 that took effect at mark, and ended then.
func done(mark int, o model.Op, a model.Answer) hist.Entry {
	return hist.Entry{Begin: mark - 1, Mark: mark, End: mark, Op: o, Answer: a}
}

// may is what the document says of Right, word by word.
func may(workers int, l []hist.Entry) bool {
	if workers < 1 || workers > 8 || len(l) > 65536 {
		return false
	}
	for i, e := range l {
		who := 0 <= e.Who && e.Who < workers
		begin := e.Begin >= 0
		mark := e.Mark == 0 || e.Mark > e.Begin
		end := e.End == 0 || e.Mark != 0 && !(e.End < e.Mark)
		if !who || !begin || !mark || !end {
			return false
		}
		for _, f := range l[:i] {
			if e.Mark == f.Mark && e.Mark != 0 {
				return false
			}
		}
	}
	return true
}

// rising is the places of what took effect, from the least Mark to the greatest one.
func rising(l []hist.Entry) []int {
	var places []int
	for last := 0; ; {
		next := -1
		for at, e := range l {
			if e.Mark > last && (next == -1 || e.Mark < l[next].Mark) {
				next = at
			}
		}
		if next == -1 {
			return places
		}
		places, last = append(places, next), l[next].Mark
	}
}

// checked is what the document says of Check; l may be (and so no Mark is below 0).
func checked(c rules.Config, l []hist.Entry) int {
	m, _ := model.Begin(c)
	for _, at := range rising(l) {
		if a, _ := m.Do(l[at].Op); l[at].End > 0 && l[at].Answer != a {
			return at
		}
	}
	return -1
}

// queued is what the document says of Queue; l may be.
func queued(c rules.Config, l []hist.Entry, out []model.Out) bool {
	m, _ := model.Begin(c)
	whole := true
	var want, got [4][]model.Out
	for _, at := range rising(l) {
		_, let := m.Do(l[at].Op)
		for _, o := range let {
			want[o.Id%c.Shards] = append(want[o.Id%c.Shards], o)
		}
		whole = whole && l[at].End != 0
	}
	for _, o := range out {
		if o.Id < 0 {
			return false
		}
		got[o.Id%c.Shards] = append(got[o.Id%c.Shards], o)
	}
	for shard := range want {
		for i, o := range got[shard] {
			if i >= len(want[shard]) || want[shard][i] != o {
				return false
			}
		}
		if whole && len(got[shard]) != len(want[shard]) {
			return false
		}
	}
	return true
}

// hold holds all three calls against the document's words.
func hold(t *testing.T, c rules.Config, workers int, l []hist.Entry, out []model.Out) (int, bool) {
	t.Helper()
	right, place, queue := may(workers, l), -2, false
	if right && rules.Check(c) == api.OK {
		place, queue = checked(c, l), queued(c, l, out)
	}
	if got := hist.Right(workers, l); got != right {
		t.Fatalf("Right of %d, %+v: %v", workers, l, got)
	}
	if got := hist.Check(c, workers, l); got != place {
		t.Fatalf("Check of %d, %+v: %d; want %d", workers, l, got, place)
	}
	if got := hist.Queue(c, workers, l, out); got != queue {
		t.Fatalf("Queue of %d, %+v and %v: %v", workers, l, out, got)
	}
	return place, queue
}

// P10.1: the example that the document writes out.
func TestExample(t *testing.T) {
	l := []hist.Entry{done(3, order(0, 1), ok(0)), done(2, kill(), ok(0))}
	if n := hist.Check(config(2), 1, l); n != 0 {
		t.Error(n)
	}
	slices.Reverse(l)
	if n := hist.Check(config(2), 1, l); n != 1 {
		t.Error(n)
	}
	l[1].Answer = no(api.Killed)
	if n := hist.Check(config(2), 1, l); n != -1 {
		t.Error(n)
	}
}

// P10.1: how many workers there may be, and who is one.
func TestWorkers(t *testing.T) {
	for _, workers := range []int{math.MinInt, -1, 0, 1, 2, 7, 8, 9, 10, math.MaxInt} {
		some := workers >= 1 && workers <= 8
		if hist.Right(workers, nil) != some || hist.Right(workers, []hist.Entry{}) != some {
			t.Error(workers)
		}
		if n := hist.Check(config(1), workers, nil); n != map[bool]int{true: -1, false: -2}[some] {
			t.Error(workers, n)
		}
		if hist.Queue(config(1), workers, nil, nil) != some {
			t.Error(workers)
		}
		for _, who := range []int{math.MinInt, -1, 0, 1, 6, 7, 8, 9, math.MaxInt} {
			if hist.Right(workers, []hist.Entry{{}, {Who: who}}) != (some && who >= 0 && who < workers) {
				t.Error(workers, who)
			}
		}
	}
}

// P10.1: each within its time: all of few times.
func TestTimes(t *testing.T) {
	times := []int{math.MinInt, -2, -1, 0, 1, 2, 3, math.MaxInt - 1, math.MaxInt}
	rights := 0
	for _, begin := range times {
		for _, mark := range times {
			for _, end := range times {
				e := hist.Entry{Begin: begin, Mark: mark, End: end, Op: rearm(), Answer: no(api.State)}
				if place, _ := hold(t, config(1), 1, []hist.Entry{e}, nil); place != -2 {
					rights++
				}
			}
		}
	}
	if rights < 20 {
		t.Error("hardly any was right:", rights)
	}
	for i, w := range []struct {
		begin, mark, end int
		want             bool
	}{
		{0, 0, 0, true}, {5, 0, 0, true}, {-1, 0, 0, false}, {0, 1, 0, true}, {0, 1, 1, true}, {0, 2, 1, false}, {1, 1, 1, false}, {1, 1, 0, false},
		{2, 1, 3, false}, {1, 2, 9, true}, {0, 0, 1, false}, {3, 0, 4, false}, {0, -1, 0, false}, {0, -1, 1, false}, {0, 1, -1, false}, {-1, 1, 1, false},
		{0, 0, -1, false}, {-3, -2, -1, false}, {0, math.MaxInt, math.MaxInt, true}, {math.MaxInt - 1, math.MaxInt, 0, true},
	} {
		for _, l := range [][]hist.Entry{
			{{Begin: w.begin, Mark: w.mark, End: w.end}},
			{{}, {Begin: w.begin, Mark: w.mark, End: w.end}},
			{{Begin: w.begin, Mark: w.mark, End: w.end}, {Begin: 7}},
		} {
			if hist.Right(3, l) != w.want {
				t.Error(i, l)
			}
		}
	}
}

// P10.1: none of two have the same Mark, whosever they are and wherever they stand; but 0.
func TestMarks(t *testing.T) {
	for i := range 4 {
		for j := range 4 {
			for _, who := range []int{0, 1} {
				l := []hist.Entry{done(3, rearm(), no(api.State)), done(9, kill(), ok(0)), done(5, kill(), ok(0)), done(7, rearm(), ok(1))}
				l[i].Who = who
				l[i].Mark, l[i].Begin, l[i].End = l[j].Mark, 0, 20
				if hist.Right(2, l) != (i == j) {
					t.Error(i, j, who)
				}
				hold(t, config(1), 2, l, nil)
			}
		}
	}
	if !hist.Right(1, make([]hist.Entry, 5)) {
		t.Error("many may have no Mark")
	}
	l := []hist.Entry{{Begin: 4}, done(2, kill(), ok(0)), {Begin: 4}, {Begin: 1}}
	if n := hist.Check(config(1), 1, l); n != -1 || !hist.Right(1, l) {
		t.Error(n)
	}
}

// P10.1: so many Entries, and not one more; and as many as may be are gone through.
func TestLongLists(t *testing.T) {
	const most = 65536
	l := make([]hist.Entry, most)
	for i := range l {
		l[i] = done(most-i, kill(), ok(0))
	}
	c := config(2)
	if n := hist.Check(c, 1, l); !hist.Right(1, l) || n != -1 || !hist.Queue(c, 1, l, nil) {
		t.Error(n)
	}
	l[7].Answer = no(api.State)
	l[most-9].Answer = no(api.State)
	if n := hist.Check(c, 1, l); n != most-9 {
		t.Error(n)
	}
	for _, more := range []hist.Entry{{}, done(most+1, kill(), ok(0))} {
		long := append(slices.Clone(l), more)
		if n := hist.Check(c, 1, long); hist.Right(1, long) || n != -2 || hist.Queue(c, 1, long, nil) {
			t.Error(n)
		}
	}
	if idle := make([]hist.Entry, most+1); !hist.Right(1, idle[:most]) || hist.Right(1, idle) {
		t.Error("of such as took no effect, too")
	}
	l[0] = done(1, kill(), ok(0))
	if n := hist.Check(c, 1, l); hist.Right(1, l) || n != -2 {
		t.Error("the first one and the last one have one Mark:", n)
	}
}

// P10.1: where there is no Model, or what is handed in isn't Right, all is in vain.
func TestNoModel(t *testing.T) {
	good := []hist.Entry{done(2, kill(), ok(0))}
	for i, spoil := range []func(c *rules.Config){
		func(c *rules.Config) { c.Shards = 0 },
		func(c *rules.Config) { c.Shards = 5 },
		func(c *rules.Config) { c.Shards = -1 },
		func(c *rules.Config) { c.Rate = 0 },
		func(c *rules.Config) { c.Nodes = nil },
		func(c *rules.Config) { c.Accounts = nil },
		func(c *rules.Config) { c.Accounts[0] = 9 },
		func(c *rules.Config) { c.Symbols = nil },
		func(c *rules.Config) { c.Symbols[0].Band = -1 },
		func(c *rules.Config) { *c = rules.Config{} },
	} {
		c := config(2)
		spoil(&c)
		for _, l := range [][]hist.Entry{nil, good} {
			if n := hist.Check(c, 1, l); n != -2 || hist.Queue(c, 1, l, nil) || !hist.Right(1, l) {
				t.Error(i, n)
			}
		}
	}
	c := config(2)
	for i, l := range [][]hist.Entry{{{Who: 1}}, {{Who: -1}}, {{Begin: -1}}, {{End: 1}}, {{Begin: 1, Mark: 1}}, append(slices.Clone(good), good...)} {
		if n := hist.Check(c, 1, l); n != -2 || hist.Queue(c, 1, l, nil) || hist.Right(1, l) {
			t.Error(i, n)
		}
	}
}

// P10.1: the order is that of the Marks, not of the list, of the Begins, of the Ends or of the workers.
func TestOrderOfMarks(t *testing.T) {
	l := []hist.Entry{
		{Who: 2, Begin: 0, Mark: 50, End: 51, Op: order(0, 1), Answer: ok(0)},
		{Who: 1, Begin: 9, Mark: 30, End: 90, Op: rearm(), Answer: ok(1)},
		{Who: 0, Begin: 1, Mark: 10, End: 60, Op: rearm(), Answer: no(api.State)},
		{Who: 2, Begin: 0, Mark: 25, End: 25, Op: order(0, 1), Answer: no(api.Killed)},
		{Who: 1, Begin: 8, Mark: 20, End: 99, Op: kill(), Answer: ok(0)},
		{Who: 0, Begin: 2, Mark: 40, End: 70, Op: kill(), Answer: ok(1)},
		{Who: 0, Begin: 0, Mark: 45, End: 46, Op: rearm(), Answer: ok(2)},
	}
	out := []model.Out{{Kind: model.New, Id: 0}}
	if place, queue := hold(t, config(2), 3, l, out); place != -1 || !queue {
		t.Fatal(place, queue)
	}
	// In any order of the list all is the same, but for the places.
	draw := rand.New(rand.NewSource(1))
	for range 50 {
		draw.Shuffle(len(l), func(i, j int) { l[i], l[j] = l[j], l[i] })
		if place, queue := hold(t, config(2), 3, l, out); place != -1 || !queue {
			t.Fatal(place, queue)
		}
		for i := range l {
			for j := range l {
				bad := slices.Clone(l)
				bad[i].Answer.Id += 5
				bad[j].Answer.Code = api.Node
				want := i
				if bad[j].Mark < bad[i].Mark {
					want = j
				}
				if place, _ := hold(t, config(2), 3, bad, out); place != want {
					t.Fatal(i, j, place)
				}
			}
		}
	}
}

// P10.1: an Answer is its Code and its Id.
func TestAnswers(t *testing.T) {
	for i, w := range []struct {
		o    model.Op
		a    model.Answer
		want int
	}{
		{order(1, 1), ok(1), -1}, {order(1, 1), ok(0), 0}, {order(1, 1), ok(-1), 0}, {order(1, 1), no(api.Killed), 0},
		{order(1, 1), model.Answer{Code: api.Killed, Id: 1}, 0}, {kill(), ok(0), -1}, {kill(), ok(1), 0}, {kill(), no(api.Malformed), 0},
		{rearm(), no(api.State), -1}, {rearm(), ok(0), 0}, {rearm(), model.Answer{Code: api.State, Id: 1}, 0},
		{cancel(0), no(api.Unknown), -1}, {cancel(-1), no(api.Malformed), -1}, {cancel(-1), no(api.Unknown), 0},
		{sweep(1, 0), ok(0), -1}, {sweep(2, 0), no(api.Malformed), -1}, {sweep(2, 0), ok(0), 0}, {sweep(-1, 0), no(api.Malformed), -1},
		{model.Op{Msg: wire.Msg{Kind: 77}}, no(api.Malformed), -1}, {model.Op{Msg: wire.Msg{Kind: 77}}, ok(0), 0},
		{order(1, 1), model.Answer{Code: 99}, 0}, {order(4, 1), no(api.Account), -1},
	} {
		if n := hist.Check(config(2), 1, []hist.Entry{done(1, w.o, w.a)}); n != w.want {
			t.Error(i, n)
		}
	}
}

// P10.1: what hasn't ended is done, whatever its answer; what took no effect isn't.
func TestUnderway(t *testing.T) {
	c := config(2)
	for _, a := range []model.Answer{{}, ok(77), no(api.Full)} {
		k := hist.Entry{Begin: 0, Mark: 2, Op: kill(), Answer: a}
		o := done(3, order(0, 1), no(api.Killed))
		if n := hist.Check(c, 1, []hist.Entry{o, k}); n != -1 {
			t.Error(a, n)
		}
		o.Answer = ok(0)
		if n := hist.Check(c, 1, []hist.Entry{o, k}); n != 0 {
			t.Error(a, n)
		}
		k.Mark = 0
		if n := hist.Check(c, 1, []hist.Entry{k, o}); n != -1 {
			t.Error(a, n)
		}
		k.Mark, k.End = 4, 0
		if n := hist.Check(c, 1, []hist.Entry{k, o}); n != -1 {
			t.Error(a, n)
		}
		k.Mark, k.End = 2, 2
		if n := hist.Check(c, 1, []hist.Entry{k, o}); (n == 0) != (a != model.Answer{}) {
			t.Error(a, n)
		}
	}
}

// P10.1: two accounts of two shards; what goes out of each is in its order, whatever is between.
func TestQueueByShards(t *testing.T) {
	new0, new1, new2 := model.Out{Id: 0}, model.Out{Id: 1}, model.Out{Id: 2}
	cancel0, cancel1 := model.Out{Kind: 1, Id: 0}, model.Out{Kind: 1, Id: 1}
	l := []hist.Entry{
		done(1, order(0, 1), ok(0)), done(2, order(1, 1), ok(1)), done(3, cancel(0), ok(0)), done(4, order(2, 1), ok(2)), done(5, sweep(1, 0), ok(1)),
	}
	begun := slices.Clone(l)
	begun[4].End = 0
	idle := append(slices.Clone(l), hist.Entry{Begin: 9, Op: order(3, 1)})
	for i, w := range []struct {
		out         []model.Out
		all, partly bool
	}{
		{[]model.Out{new0, new1, cancel0, new2, cancel1}, true, true},
		{[]model.Out{new1, cancel1, new0, cancel0, new2}, true, true},
		{[]model.Out{new0, cancel0, new2, new1, cancel1}, true, true},
		{[]model.Out{new0, cancel0, new1, new2, cancel1}, true, true},
		{nil, false, true}, {[]model.Out{new0}, false, true}, {[]model.Out{new1}, false, true}, {[]model.Out{new1, cancel1}, false, true},
		{[]model.Out{new0, new1, cancel0, new2}, false, true}, {[]model.Out{new1, cancel1, new0, cancel0}, false, true},
		{[]model.Out{cancel0, new0, new1, new2, cancel1}, false, false}, {[]model.Out{new0, new1, new2, cancel0, cancel1}, false, false},
		{[]model.Out{new0, cancel1, cancel0, new2, new1}, false, false}, {[]model.Out{cancel1}, false, false}, {[]model.Out{cancel0}, false, false},
		{[]model.Out{new2}, false, false}, {[]model.Out{new0, new0}, false, false}, {[]model.Out{new0, new2}, false, false},
		{[]model.Out{new0, new1, cancel0, new2, cancel1, cancel1}, false, false}, {[]model.Out{new0, new1, cancel0, new2, cancel1, {Id: 4}}, false, false},
		{[]model.Out{new0, new1, cancel0, new2, cancel1, {Id: 3}}, false, false}, {[]model.Out{new0, new1, cancel0, new2, {Kind: 2, Id: 1}}, false, false},
		{[]model.Out{new0, new1, cancel0, new2, cancel1, {Id: -1}}, false, false}, {[]model.Out{new0, {Id: -2}}, false, false}, {[]model.Out{{Id: -2}}, false, false},
		{[]model.Out{{Kind: -1, Id: 0}}, false, false}, {[]model.Out{{Id: math.MaxInt}}, false, false}, {[]model.Out{{Id: math.MinInt}}, false, false},
		{[]model.Out{{Kind: 1, Id: -1}, new0, new1, cancel0, new2, cancel1}, false, false},
	} {
		if got := hist.Queue(config(2), 1, l, w.out); got != w.all {
			t.Errorf("%d: all of it: %v", i, got)
		}
		if got := hist.Queue(config(2), 1, begun, w.out); got != w.partly {
			t.Errorf("%d: a beginning: %v", i, got)
		}
		// What took no effect lets nothing go out, and needn't have ended.
		if got := hist.Queue(config(2), 1, idle, w.out); got != w.all {
			t.Errorf("%d: another one that took no effect: %v", i, got)
		}
	}
	// Of one shard all of it is in one order.
	if hist.Queue(config(1), 1, l, []model.Out{new1, new0, cancel0, new2, cancel1}) {
		t.Error("of one shard")
	}
}

// P10.1: any Entry that hasn't ended lets what goes out be a beginning, of each shard; also one that lets nothing go out.
func TestQueueOfUnderway(t *testing.T) {
	l := []hist.Entry{done(1, order(0, 1), ok(0)), done(2, order(1, 1), ok(1)), done(3, rearm(), no(api.State))}
	for i := range l {
		begun := slices.Clone(l)
		begun[i].End = 0
		for _, out := range [][]model.Out{nil, {{Id: 0}}, {{Id: 1}}, {{Id: 1}, {Id: 0}}} {
			if !hist.Queue(config(2), 1, begun, out) || hist.Queue(config(2), 1, l, out) != (len(out) == 2) {
				t.Error(i, out)
			}
		}
	}
}

// P10.1: Queue goes by what the Model lets go out, also where answers aren't the Model's.
func TestQueueOfOtherAnswers(t *testing.T) {
	l := []hist.Entry{done(1, order(0, 1), no(api.Killed)), done(2, kill(), ok(9)), done(3, order(1, 1), ok(1)), done(4, sweep(0, 0), no(api.Malformed))}
	if n := hist.Check(config(2), 1, l); n != 0 {
		t.Error(n)
	}
	if !hist.Queue(config(2), 1, l, []model.Out{{Id: 0}, {Kind: 1, Id: 0}}) || hist.Queue(config(2), 1, l, nil) ||
		hist.Queue(config(2), 1, l, []model.Out{{Id: 0}, {Id: 1}, {Kind: 1, Id: 0}}) {
		t.Error("what goes out doesn't hang on what was answered")
	}
}

// P10.1: all short lists of what went out, held against the document's words.
func TestAllShortQueues(t *testing.T) {
	outs := []model.Out{{Id: 0}, {Id: 1}, {Kind: 1, Id: 0}, {Kind: 1, Id: 1}, {Id: 2}, {Id: -1}}
	whole := []hist.Entry{done(4, cancel(0), ok(0)), done(1, order(0, 1), ok(0)), done(3, order(1, 1), ok(0)), done(6, order(0, 1), no(api.Duplicate))}
	begun := slices.Clone(whole)
	begun[2].End = 0
	var lists [][]model.Out
	last := [][]model.Out{nil}
	for range 5 {
		lists = append(lists, last...)
		var next [][]model.Out
		for _, l := range last {
			for _, o := range outs {
				next = append(next, append(slices.Clone(l), o))
			}
		}
		last = next
	}
	for _, shards := range []int{1, 2, 3, 4} {
		for _, l := range [][]hist.Entry{whole, begun, whole[:2], nil} {
			some := 0
			for _, out := range lists {
				if _, queue := hold(t, config(shards), 1, l, out); queue {
					some++
				}
			}
			if some == 0 {
				t.Error(shards, l)
			}
		}
	}
}

// draw takes numbers off a script, and 0 where it is at its end.
type draw struct{ script []byte }

func (d *draw) take(n int) int {
	if len(d.script) == 0 {
		return 0
	}
	x := int(d.script[0])
	d.script = d.script[1:]
	return x % n
}

func (d *draw) op() model.Op {
	id := d.take(12)
	switch d.take(9) {
	case 0:
		return cancel(id)
	case 1:
		return model.Op{Msg: wire.Msg{Kind: wire.Fill, Id: id, Qty: int64(d.take(4))}}
	case 2:
		return model.Op{Msg: wire.Msg{Kind: wire.Ack, Id: id}}
	case 3:
		return kill()
	case 4:
		return rearm()
	case 5:
		return sweep(d.take(5), int64(d.take(3)))
	case 6:
		return model.Op{Msg: wire.Msg{Kind: d.take(8), Node: d.take(3), Most: int64(100 * d.take(20))}}
	default:
		return order(d.take(5), int64(d.take(9)))
	}
}

// past is what happened by a script: all as it should be, in any places of the list; and what went out.
func (d *draw) past(c rules.Config) ([]hist.Entry, []model.Out) {
	m, _ := model.Begin(c)
	var l []hist.Entry
	var out []model.Out
	mark := 0
	for len(d.script) > 20 {
		mark += 1 + d.take(3)
		e := hist.Entry{Who: d.take(8), Mark: mark, Begin: mark - 1 - d.take(mark), Op: d.op()}
		a, let := m.Do(e.Op)
		if e.End, e.Answer = mark+d.take(9), a; d.take(15) == 0 {
			e.End, e.Answer = 0, ok(d.take(3))
		}
		at := d.take(len(l) + 1)
		l, out = slices.Insert(l, at, e), append(out, let...)
		if d.take(8) == 0 {
			l = append(l, hist.Entry{Who: d.take(8), Begin: mark, Op: d.op(), Answer: ok(d.take(2))})
		}
	}
	return l, out
}

// spoil changes a little of it.
func (d *draw) spoil(l []hist.Entry, out []model.Out) ([]hist.Entry, []model.Out) {
	at, to := 0, 0
	if len(out) > 0 {
		at, to = d.take(len(out)), d.take(len(out))
	}
	switch kind := d.take(9); {
	case kind < 4 && len(out) > 0:
		out = slices.Clone(out)
		switch kind {
		case 0:
			out[at], out[to] = out[to], out[at]
		case 1:
			out = out[:at]
		case 2:
			out[at] = model.Out{Kind: d.take(3), Id: d.take(9) - 1}
		default:
			out = slices.Insert(out, at, out[to])
		}
	case kind >= 4 && len(l) > 0:
		l = slices.Clone(l)
		switch e := &l[d.take(len(l))]; kind {
		case 4:
			e.Answer.Id++
		case 5:
			e.Answer.Code = api.Code(d.take(19))
		case 6:
			e.Mark = e.Begin + d.take(4)
		case 7:
			e.End = d.take(3)
		default:
			e.Op = d.op()
		}
	}
	return l, out
}

// walk holds what happened by a script, and what differs a little from it, against the document's words.
func walk(t *testing.T, script []byte, met map[[2]bool]int) {
	t.Helper()
	d := &draw{script}
	c := config(1 + d.take(4))
	l, out := d.past(c)
	if place, queue := hold(t, c, 8, l, out); place != -1 || !queue {
		t.Fatalf("all was as it should be: %d, %v", place, queue)
	}
	for range 3 {
		k, o := d.spoil(l, out)
		if place, queue := hold(t, c, 8, k, o); place != -2 {
			met[[2]bool{place >= 0, queue}]++
		}
	}
}

// P10.1: many things that happened, and such as are a little otherwise.
func TestManyPasts(t *testing.T) {
	draw := rand.New(rand.NewSource(4))
	met := map[[2]bool]int{}
	for range 1500 {
		script := make([]byte, 60+draw.Intn(500))
		draw.Read(script)
		walk(t, script, met)
	}
	for _, place := range []bool{false, true} {
		for _, queue := range []bool{false, true} {
			if n := met[[2]bool{place, queue}]; n < 50 {
				t.Error("hardly met:", place, queue, n)
			}
		}
	}
}

// P10.2, rule 4: nothing that is handed in is changed, its order and its spare room neither; and all may be asked again.
func TestNothingIsChanged(t *testing.T) {
	r := rand.New(rand.NewSource(6))
	for range 100 {
		script := make([]byte, 300)
		r.Read(script)
		d := &draw{script}
		c := config(1 + d.take(4))
		l, out := d.past(c)
		l = append(l, hist.Entry{Who: 55}, hist.Entry{Who: 66})
		out = append(out, model.Out{Kind: 55}, model.Out{Kind: 66})
		nodes, accounts, symbols := append(c.Nodes, tree.Node{Cap: 55}), append(c.Accounts, 55), append(c.Symbols, rules.Symbol{Price: 55})
		c.Nodes, c.Accounts, c.Symbols = nodes[:len(c.Nodes)], accounts[:len(c.Accounts)], symbols[:len(c.Symbols)]
		wasL, wasOut := slices.Clone(l), slices.Clone(out)
		wasNodes, wasAccounts, wasSymbols := slices.Clone(nodes), slices.Clone(accounts), slices.Clone(symbols)
		for range 2 {
			if place, queue := hold(t, c, 8, l[:len(l)-2], out[:len(out)-2]); place != -1 || !queue {
				t.Fatal(place, queue)
			}
			if !slices.Equal(l, wasL) || !slices.Equal(out, wasOut) {
				t.Fatal("what was handed in is changed:", l, out)
			}
			if !slices.Equal(nodes, wasNodes) || !slices.Equal(accounts, wasAccounts) || !slices.Equal(symbols, wasSymbols) {
				t.Fatal("the Config is changed:", nodes, accounts, symbols)
			}
		}
	}
}

// P10.2, rule 5: what is asked hangs on nothing that was asked ahead, also where the same memory holds other things.
func TestNothingIsKept(t *testing.T) {
	l := []hist.Entry{done(1, order(0, 1), ok(0))}
	out := []model.Out{{Id: 0}}
	c := config(1)
	for range 2 {
		l[0], out[0], c.Nodes[1].Cap = done(1, order(0, 1), ok(0)), model.Out{Id: 0}, 700
		if place, queue := hold(t, c, 1, l, out); place != -1 || !queue {
			t.Fatal(place, queue)
		}
		c.Nodes[1].Cap = 1
		if place, queue := hold(t, c, 1, l, out); place != 0 || queue {
			t.Fatal(place, queue)
		}
		l[0].Answer = no(api.Trader)
		if place, queue := hold(t, c, 1, l, nil); place != -1 || !queue {
			t.Fatal(place, queue)
		}
		l[0].Who = 1
		if place, queue := hold(t, c, 1, l, nil); place != -2 || queue {
			t.Fatal(place, queue)
		}
	}
}

// P1: any numbers in all fields: each call ends, and none panics.
func TestAnyNumbers(t *testing.T) {
	ends := []int{0, 1, -1, 2, math.MaxInt, math.MinInt}
	for _, a := range ends {
		for _, b := range ends {
			for _, k := range ends {
				for _, o := range []model.Op{
					{Msg: wire.Msg{Kind: a, Id: b, Qty: int64(k)}}, {Sweep: true, Shard: a, Epoch: int64(b)},
					{Msg: wire.Msg{Order: rules.Order{Account: a, Symbol: b, Price: int64(k), Qty: int64(k)}}},
				} {
					l := []hist.Entry{done(1, order(0, 1), ok(0)), {Begin: 1, Mark: 2, End: 3, Op: o, Answer: model.Answer{Code: api.Code(a), Id: b}}}
					hold(t, config(2), 1, l, []model.Out{{Id: 0}, {Kind: k, Id: b}})
					l[1].Who, l[1].Begin, l[1].Mark = a, b, k
					hold(t, config(2), 3, l, []model.Out{{Kind: a, Id: k}})
				}
			}
		}
	}
}

// FuzzHist goes on from the seeds by: go test -fuzz FuzzHist ./hist
func FuzzHist(f *testing.F) {
	f.Add([]byte{1, 0, 0, 0, 0, 7, 0, 1, 0, 1, 0, 1, 1, 0, 3, 0, 1, 0, 1, 0, 1, 2, 0, 0, 5, 0, 0, 1, 0, 1, 4, 5, 6, 7, 8, 9, 1, 2, 3, 4, 5, 6})
	f.Add([]byte("what was done when, and whether one order of it all can be"))
	f.Fuzz(func(t *testing.T, script []byte) {
		walk(t, script[:min(len(script), 1000)], map[[2]bool]int{})
	})
}
