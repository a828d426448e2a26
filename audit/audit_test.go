package audit_test

import (
	"math/rand"
	"reflect"
	"slices"
	"testing"

	"stopgate/api"
	"stopgate/audit"
	"stopgate/hist"
	"stopgate/model"
	"stopgate/rules"
	"stopgate/script"
	"stopgate/tree"
	"stopgate/wire"
)

// config is one of a firm, two desks, and two traders of the first desk.
func config(shards int) rules.Config {
	return rules.Config{
		Shards: shards, Rate: 1000, Table: 64,
		Nodes:    []tree.Node{{Parent: -1, Cap: 300}, {Parent: 0, Cap: 200}, {Parent: 0, Cap: 150}, {Parent: 1, Cap: 120}, {Parent: 1, Cap: 110}},
		Accounts: []int{3, 4, 2, 3},
		Symbols:  []rules.Symbol{{Price: 10, Qty: 50, Worth: 3000, Band: 0.5}},
	}
}

func order(account int, qty int64) model.Op {
	return model.Op{Msg: wire.Msg{Order: rules.Order{Account: account, Price: 10, Qty: qty}}}
}

func fill(id int, qty int64) model.Op {
	return model.Op{Msg: wire.Msg{Kind: wire.Fill, Id: id, Qty: qty}}
}

func cancel(id int) model.Op { return model.Op{Msg: wire.Msg{Kind: wire.Cancel, Id: id}} }
func ack(id int) model.Op    { return model.Op{Msg: wire.Msg{Kind: wire.Ack, Id: id}} }
func kill() model.Op         { return model.Op{Msg: wire.Msg{Kind: wire.Kill}} }
func rearm() model.Op        { return model.Op{Msg: wire.Msg{Kind: wire.Rearm}} }

func limit(node int, most int64) model.Op {
	return model.Op{Msg: wire.Msg{Kind: wire.Limit, Node: node, Most: most}}
}

func sweep(shard int, epoch int64) model.Op {
	return model.Op{Sweep: true, Shard: shard, Epoch: epoch}
}

// asSweep is an Entry that says nothing but that it is a Sweep, whatever its message.
func asSweep(e hist.Entry) hist.Entry {
	e.Op.Sweep = true
	return e
}

func no(code api.Code) model.Answer { return model.Answer{Code: code} }

// past is what worker 0 did, one thing behind the other, as a Model answers it; what went out, and when.
func past(c rules.Config, ops ...model.Op) ([]hist.Entry, []model.Out, []int) {
	m, _ := model.Begin(c)
	var l []hist.Entry
	var out []model.Out
	var at []int
	for i, o := range ops {
		time := 10 * (i + 1)
		a, let := m.Do(o)
		l = append(l, hist.Entry{Begin: time, Mark: time + 3, End: time + 6, Op: o, Answer: a})
		for _, x := range let {
			out, at = append(out, x), append(at, time+4)
		}
	}
	return l, out, at
}

// P14.1: the chapter's example: a New at the time 9, a Kill that ended at 8, no Rearm: not Stopped.
func TestExample(t *testing.T) {
	l := []hist.Entry{{Mark: 1, End: 9, Op: order(0, 5)}, {Who: 1, Begin: 2, Mark: 7, End: 8, Op: kill()}}
	out := []model.Out{{Kind: model.New}}
	if audit.Stopped(l, out, []int{9}) || !audit.Stopped(l, out, []int{8}) {
		t.Error("Stopped")
	}
	if s := audit.Check(config(2), 2, l, out, []int{9}); s != "stopped" {
		t.Error(s)
	}
	if s := audit.Check(config(2), 2, l, out, []int{8}); s != "" {
		t.Error(s)
	}
}

// faults is all of which Check has a word, but held, in its order, each made by itself of what was as it should be.
var faults = []struct {
	word  string
	spoil func(a *all)
}{
	{"config", func(a *all) { a.config.Shards = 5 }},
	{"right", func(a *all) { a.list[4].Begin = a.list[4].Mark }},
	{"order", func(a *all) { a.list[0].Answer.Id = 7 }},
	{"queue", func(a *all) { a.out[0] = model.Out{Kind: model.Cancel, Id: 1} }},
	{"times", func(a *all) { a.at = append(a.at, 0) }},
	{"stopped", func(a *all) { a.at[1] = 50 }},
}

// all is what Check is asked of.
type all struct {
	config  rules.Config
	workers int
	list    []hist.Entry
	out     []model.Out
	at      []int
}

func someAll() all {
	a := all{config: config(2), workers: 1}
	a.list, a.out, a.at = past(a.config, order(0, 5), order(1, 5), kill(), sweep(0, 0), sweep(1, 0), order(0, 5), rearm(), order(0, 5))
	for i := range a.at[:4] {
		a.at[i] = 30 + i // ahead of the Kill's End
	}
	a.list[6].Begin = 65
	return a
}

func (a all) check() string { return audit.Check(a.config, a.workers, a.list, a.out, a.at) }

// P14.1: of all faults that there are at once Check answers the word of the first.
func TestFirstWord(t *testing.T) {
	if a := someAll(); a.check() != "" || len(a.out) != 5 {
		t.Fatal(a.check(), a.out)
	}
	for set := range 1 << len(faults) {
		a, want := someAll(), ""
		for i, f := range faults {
			if set>>i&1 == 0 {
				continue
			}
			f.spoil(&a)
			if want == "" {
				want = f.word
			}
			// The one fault is no other one's.
			if set == 1<<i && f.word == "stopped" && (audit.Stopped(a.list, a.out, a.at) || !audit.Held(a.config, 1, a.list)) {
				t.Error("not by itself")
			}
		}
		if got := a.check(); got != want {
			t.Errorf("%b: %q; want %q", set, got, want)
		}
	}
}

// P14.1: each word, of the ways in which it may come about.
func TestWords(t *testing.T) {
	for i, w := range []struct {
		word  string
		spoil func(a *all)
	}{
		{"", func(a *all) {}},
		{"config", func(a *all) { a.config = rules.Config{} }},
		{"config", func(a *all) { a.config.Symbols[0].Price = 0 }},
		{"config", func(a *all) { a.config.Nodes[0].Cap = -1 }},
		{"config", func(a *all) { a.config.Accounts = nil }},
		{"right", func(a *all) { a.workers = 0 }},
		{"right", func(a *all) { a.workers = 9 }},
		{"right", func(a *all) { a.list[2].Who = 1 }},
		{"right", func(a *all) { a.list[2].Mark = a.list[3].Mark }},
		{"right", func(a *all) { a.list[2].End = 1 }},
		{"", func(a *all) { a.workers, a.list[2].Who = 8, 7 }},
		{"order", func(a *all) { a.list[7].Answer.Code = api.Killed }},
		{"order", func(a *all) { a.list[0].Answer.Id = 2 }},
		{"order", func(a *all) { a.list[7].Op = limit(9, 9) }},
		{"order", func(a *all) { a.config.Nodes[3].Cap = 10 }},
		{"queue", func(a *all) { a.out = nil }},
		{"queue", func(a *all) { a.out = a.out[:4] }},
		{"queue", func(a *all) { a.out[4].Id = -1 }},
		{"queue", func(a *all) { a.out[1], a.out[3] = a.out[3], a.out[1] }},
		{"", func(a *all) { a.list[7].End, a.out, a.at = 0, a.out[:4], a.at[:4] }},
		{"times", func(a *all) { a.at = nil }},
		{"times", func(a *all) { a.at = a.at[:4] }},
		{"times", func(a *all) { a.at = append(a.at, 99) }},
		{"stopped", func(a *all) { a.at[0] = 37 }},
		{"", func(a *all) { a.at[0] = 36 }},
		{"stopped", func(a *all) { a.at[4] = 65 }},
		{"", func(a *all) { a.at[4] = 66 }},
		{"", func(a *all) { a.at[2] = 50 }},
		{"", func(a *all) { *a = all{config: config(1), workers: 1} }},
		{"config", func(a *all) { *a = all{} }},
	} {
		a := someAll()
		w.spoil(&a)
		if got := a.check(); got != w.word {
			t.Errorf("%d: %q; want %q", i, got, w.word)
		}
	}
}

// words is Check by the chapter's words, and by what this test says of Held and Stopped.
func words(a all) string {
	for _, w := range []struct {
		word string
		bad  bool
	}{
		{"config", rules.Check(a.config) != api.OK}, {"right", !hist.Right(a.workers, a.list)}, {"order", hist.Check(a.config, a.workers, a.list) != -1},
		{"queue", !hist.Queue(a.config, a.workers, a.list, a.out)}, {"times", len(a.out) != len(a.at)},
		{"held", !isHeld(a.config, a.workers, a.list)}, {"stopped", !isStopped(a.list, a.out, a.at)},
	} {
		if w.bad {
			return w.word
		}
	}
	return ""
}

// anyScript is a Script of drawn bytes; wide ones have Caps that let most orders come.
func anyScript(r *rand.Rand) script.Script {
	b := make([]byte, 12+4*r.Intn(40))
	r.Read(b)
	if r.Intn(2) == 0 {
		copy(b, []byte{b[0], 0, 5, 5, 255, 255, 255, 255})
	}
	s := script.Read(b)
	for range r.Intn(600) {
		s.Picks = append(s.Picks, r.Intn(3))
	}
	return s
}

// P14.1, P8: of what came about by a Floor, whatever was picked, Check has nothing to say, nor on the way.
func TestWhatCameAbout(t *testing.T) {
	r := rand.New(rand.NewSource(1))
	stops := 0
	for range 400 {
		s := anyScript(r)
		f := script.Play(s)
		for range 2 {
			l := f.Gate().Log()
			out, at := f.Gate().Out()
			if w := audit.Check(s.Config, 3, l, out, at); w != "" {
				t.Fatalf("%s: %+v", w, s)
			}
			if !isHeld(s.Config, 3, l) || !isStopped(l, out, at) {
				t.Fatalf("by the chapter's words: %+v", s)
			}
			if slices.ContainsFunc(l, func(e hist.Entry) bool { return e.Answer.Code == api.Killed }) {
				stops++
			}
			f.Rest(100000)
		}
	}
	if stops < 200 {
		t.Error("hardly met:", stops)
	}
}

// P14.1: what came about, a little otherwise.
func TestSpoilt(t *testing.T) {
	r := rand.New(rand.NewSource(2))
	met := map[string]int{}
	for range 2000 {
		s := anyScript(r)
		f := script.Play(s)
		a := all{config: s.Config, workers: 3, list: f.Gate().Log()}
		a.out, a.at = f.Gate().Out()
		for range 1 + r.Intn(2) {
			a.spoil(r)
		}
		want := words(a)
		if got := a.check(); got != want {
			t.Fatalf("%q; want %q: %+v", got, want, a)
		}
		met[want]++
	}
	for _, w := range []string{"", "config", "right", "order", "queue", "times", "stopped"} {
		if met[w] < 20 {
			t.Errorf("hardly met: %q: %d", w, met[w])
		}
	}
	if met["held"] != 0 {
		t.Error("a Model lets more be open than it may")
	}
}

// spoil makes a little of it otherwise; the most of it is times, which layer 10 has nothing against.
func (a *all) spoil(r *rand.Rand) {
	kind := r.Intn(14)
	if n := min(len(a.at), len(a.out)); n > 0 {
		at := r.Intn(n)
		switch kind {
		case 0, 1, 2, 3:
			a.at[at] += r.Intn(200)
		case 4:
			a.at = a.at[:at]
		case 5:
			a.out[at].Kind ^= 1
		case 6:
			a.out = slices.Delete(a.out, at, at+1)
		}
	}
	if len(a.list) > 0 {
		e := &a.list[r.Intn(len(a.list))]
		switch kind {
		case 7, 8, 9:
			e.Begin = r.Intn(e.Begin + 1)
		case 10:
			e.End += r.Intn(100)
		case 11:
			e.Answer.Code = api.Code(r.Intn(19))
		case 12:
			e.Mark = r.Intn(100)
		}
	}
	if kind == 13 {
		a.config.Table = r.Intn(3)
	}
}

// room is a list with something in the room behind it, and a look whether that is as it was.
func room[T any](l []T, x T) ([]T, func(t *testing.T)) {
	given := append(slices.Clone(l), x, x)
	was := slices.Clone(given)
	return given[:len(l)], func(t *testing.T) {
		t.Helper()
		if !reflect.DeepEqual(given, was) {
			t.Fatalf("it is changed: %+v; it was %+v", given, was)
		}
	}
}

// P14.2, rules 4 and 5: nothing that is handed in is changed, its order and its spare room neither; and whatever is
// done to it behind a call, the next one hangs on what it is given.
func TestNothingIsKeptOrChanged(t *testing.T) {
	r := rand.New(rand.NewSource(3))
	for range 200 {
		s := anyScript(r)
		f := script.Play(s)
		out, at := f.Gate().Out()
		l := f.Gate().Log()
		r.Shuffle(len(l), func(i, j int) { l[i], l[j] = l[j], l[i] })
		l, sameL := room(l, hist.Entry{Who: 55})
		out, sameOut := room(out, model.Out{Kind: 55})
		at, sameAt := room(at, 55)
		nodes, sameNodes := room(s.Config.Nodes, tree.Node{Cap: 55})
		accounts, sameAccounts := room(s.Config.Accounts, 55)
		symbols, sameSymbols := room(s.Config.Symbols, rules.Symbol{Price: 55})
		c := s.Config
		c.Nodes, c.Accounts, c.Symbols = nodes, accounts, symbols
		for range 2 {
			if w := audit.Check(c, 3, l, out, at); w != "" || !audit.Held(c, 3, l) || !audit.Stopped(l, out, at) {
				t.Fatal(w)
			}
			for _, same := range []func(*testing.T){sameL, sameOut, sameAt, sameNodes, sameAccounts, sameSymbols} {
				same(t)
			}
		}
		clear(l)
		if len(out) > 0 {
			if w := audit.Check(c, 3, l, out, at); w != "queue" {
				t.Fatal(w)
			}
		}
		if w := audit.Check(c, 3, l, nil, nil); w != "" {
			t.Fatal(w)
		}
		clear(nodes)
		clear(accounts)
		clear(symbols)
		if w := audit.Check(c, 3, l, nil, nil); w != "config" || audit.Held(c, 3, l) {
			t.Fatal(w)
		}
	}
}
