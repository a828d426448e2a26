package audit_test

import (
	"math"
	"math/rand"
	"slices"
	"testing"

	"stopgate/api"
	"stopgate/audit"
	"stopgate/hist"
	"stopgate/model"
	"stopgate/rules"
	"stopgate/wire"
)

// isStopped is what the chapter says of Stopped, word by word: a Kill is 4, a Rearm 5, an Order 0, a New 0; OK is 0, Malformed 1, Killed 2.
func isStopped(l []hist.Entry, out []model.Out, at []int) bool {
	for _, k := range l {
		if k.Op.Sweep || k.Op.Msg.Kind != 4 || k.End == 0 || k.Answer.Code != 0 {
			continue
		}
		until, some := 0, false
		for _, r := range l {
			if !r.Op.Sweep && r.Op.Msg.Kind == 5 && (r.End == 0 || r.End > k.Mark) && (!some || r.Begin < until) {
				until, some = r.Begin, true
			}
		}
		for i := 0; i < len(out) && i < len(at); i++ {
			if out[i].Kind == 0 && at[i] > k.End && (!some || !(at[i] > until)) {
				return false
			}
		}
		for _, o := range l {
			began := !o.Op.Sweep && o.Op.Msg.Kind == 0 && o.Begin >= k.End
			ended := o.End != 0 && (!some || !(o.End > until))
			if began && ended && o.Answer.Code != 2 && o.Answer.Code != 1 {
				return false
			}
		}
	}
	return true
}

// at is an Entry of these times.
func at(begin, mark, end int, o model.Op) hist.Entry {
	return hist.Entry{Begin: begin, Mark: mark, End: end, Op: o}
}

// answered is an Entry with a Code.
func answered(e hist.Entry, code api.Code) hist.Entry {
	e.Answer.Code = code
	return e
}

// stopped holds Stopped against the chapter's words.
func stopped(t testing.TB, l []hist.Entry, out []model.Out, times []int) bool {
	t.Helper()
	want := isStopped(l, out, times)
	if got := audit.Stopped(l, out, times); got != want {
		t.Fatalf("%v; want %v: %+v, %v, %v", got, want, l, out, times)
	}
	return want
}

// P14.1: a New: when it went out counts, above the Kill's End, and not above an until.
func TestNewsOfStopped(t *testing.T) {
	k, r := at(2, 5, 20, kill()), at(30, 33, 36, rearm())
	one := []model.Out{{Kind: model.New, Id: 3}}
	for _, w := range []struct {
		l    []hist.Entry
		out  []model.Out
		at   []int
		want bool
	}{
		{nil, nil, nil, true}, {nil, one, []int{5}, true}, {[]hist.Entry{k}, nil, nil, true},
		{[]hist.Entry{k}, one, []int{19}, true}, {[]hist.Entry{k}, one, []int{20}, true}, {[]hist.Entry{k}, one, []int{21}, false},
		{[]hist.Entry{k}, one, []int{0}, true}, {[]hist.Entry{k}, one, []int{math.MaxInt}, false}, {[]hist.Entry{k}, one, []int{math.MinInt}, true},
		// Only News count, and only what has a time.
		{[]hist.Entry{k}, []model.Out{{Kind: model.Cancel}}, []int{21}, true}, {[]hist.Entry{k}, []model.Out{{Kind: 2}, {Kind: -1}}, []int{21, 21}, true},
		{[]hist.Entry{k}, one, nil, true}, {[]hist.Entry{k}, nil, []int{21}, true}, {[]hist.Entry{k}, []model.Out{{Kind: 1}, {}}, []int{21}, true},
		{[]hist.Entry{k}, []model.Out{{Kind: 1}}, []int{21, 21}, true}, {[]hist.Entry{k}, []model.Out{{Kind: 1}, {}}, []int{21, 20}, true},
		{[]hist.Entry{k}, []model.Out{{Kind: 1}, {}}, []int{20, 21}, false}, {[]hist.Entry{k}, []model.Out{{}, {}, {}}, []int{3, 21, 7}, false},
		// An until.
		{[]hist.Entry{k, r}, one, []int{20}, true}, {[]hist.Entry{k, r}, one, []int{21}, false}, {[]hist.Entry{k, r}, one, []int{30}, false},
		{[]hist.Entry{k, r}, one, []int{31}, true}, {[]hist.Entry{r, k}, one, []int{31}, true}, {[]hist.Entry{r, k}, one, []int{30}, false},
		{[]hist.Entry{k, r}, []model.Out{{}, {}}, []int{40, 25}, false}, {[]hist.Entry{k, r}, []model.Out{{}, {}}, []int{40, 20}, true},
		// What isn't a Kill that ended OK stops nothing.
		{[]hist.Entry{at(2, 5, 0, kill())}, one, []int{21}, true}, {[]hist.Entry{asSweep(k)}, one, []int{21}, true},
		{[]hist.Entry{answered(k, api.Malformed)}, one, []int{21}, true}, {[]hist.Entry{answered(k, api.Killed)}, one, []int{21}, true},
		{[]hist.Entry{at(2, 5, 20, rearm())}, one, []int{21}, true}, {[]hist.Entry{at(2, 5, 20, cancel(3))}, one, []int{21}, true},
		// Which epoch it was, and whose it is, is all one.
		{[]hist.Entry{{Who: 7, Begin: 2, Mark: 5, End: 20, Op: kill(), Answer: model.Answer{Id: 9}}}, one, []int{21}, false},
		// Of two Kills each counts by itself.
		{[]hist.Entry{k, at(31, 40, 50, kill()), r}, one, []int{45}, true}, {[]hist.Entry{k, at(31, 40, 50, kill()), r}, one, []int{51}, false},
		{[]hist.Entry{at(31, 40, 50, kill()), r, k}, one, []int{30}, false}, {[]hist.Entry{at(31, 40, 0, kill()), r, k}, one, []int{51}, true},
		{[]hist.Entry{at(31, 40, 50, kill()), answered(k, api.State), r}, one, []int{30}, true},
	} {
		if stopped(t, w.l, w.out, w.at) != w.want {
			t.Errorf("%+v, %v, %v: not %v", w.l, w.out, w.at, w.want)
		}
	}
}

// P14.1: until: the least Begin of all Rearms that ended behind the Kill's Mark, or not yet.
func TestUntil(t *testing.T) {
	const never = math.MaxInt
	k := at(2, 5, 20, kill())
	for _, w := range []struct {
		l     []hist.Entry
		until int
	}{
		{nil, never}, {[]hist.Entry{at(30, 33, 36, rearm())}, 30}, {[]hist.Entry{at(30, 33, 0, rearm())}, 30}, {[]hist.Entry{at(30, 0, 0, rearm())}, 30},
		{[]hist.Entry{at(1, 4, 5, rearm())}, never}, {[]hist.Entry{at(1, 3, 4, rearm())}, never}, {[]hist.Entry{at(1, 4, 6, rearm())}, 1}, {[]hist.Entry{at(1, 6, 7, rearm())}, 1},
		{[]hist.Entry{asSweep(at(30, 33, 36, rearm()))}, never}, {[]hist.Entry{at(30, 33, 36, kill())}, never}, {[]hist.Entry{asSweep(at(30, 33, 0, rearm()))}, never},
		// Also one that was refused.
		{[]hist.Entry{answered(at(30, 33, 36, rearm()), api.State)}, 30}, {[]hist.Entry{answered(at(25, 33, 0, rearm()), api.State), at(26, 50, 51, rearm())}, 25},
		// The least one, whenever it ended.
		{[]hist.Entry{at(40, 41, 42, rearm()), at(30, 50, 90, rearm())}, 30}, {[]hist.Entry{at(30, 50, 90, rearm()), at(40, 41, 42, rearm())}, 30},
		{[]hist.Entry{at(30, 41, 42, rearm()), at(40, 50, 90, rearm())}, 30}, {[]hist.Entry{at(30, 41, 0, rearm()), at(40, 50, 90, rearm())}, 30},
		{[]hist.Entry{at(40, 41, 0, rearm()), at(30, 50, 90, rearm())}, 30}, {[]hist.Entry{at(40, 41, 0, rearm()), at(30, 50, 0, rearm())}, 30},
		{[]hist.Entry{at(30, 41, 0, rearm()), at(40, 50, 0, rearm())}, 30}, {[]hist.Entry{at(1, 2, 3, rearm()), at(40, 50, 60, rearm())}, 40},
		{[]hist.Entry{at(40, 50, 60, rearm()), at(1, 2, 5, rearm())}, 40}, {[]hist.Entry{at(1, 2, 5, rearm()), at(40, 50, 0, rearm())}, 40},
		{[]hist.Entry{at(22, 24, 25, rearm()), at(23, 26, 27, rearm()), at(21, 28, 29, rearm()), at(24, 30, 31, rearm())}, 21},
	} {
		l := append(w.l, k)
		for _, time := range []int{21, 22, 23, 24, 25, 26, 29, 30, 31, 39, 40, 41, 100, never} {
			if got := stopped(t, l, []model.Out{{}}, []int{time}); got != (time > w.until) {
				t.Errorf("%+v: %d: %v", w.l, time, got)
			}
		}
	}
}

// P14.1: an Order that began at the Kill's End or later, and ended, not behind an until, is Killed, or Malformed.
func TestOrdersOfStopped(t *testing.T) {
	k, r := at(2, 5, 20, kill()), at(30, 33, 36, rearm())
	o := order(0, 5)
	for i, w := range []struct {
		l    []hist.Entry
		want bool
	}{
		{[]hist.Entry{k, at(19, 21, 22, o)}, true}, {[]hist.Entry{k, at(20, 21, 22, o)}, false}, {[]hist.Entry{k, at(21, 22, 23, o)}, false},
		{[]hist.Entry{at(20, 21, 22, o), k}, false}, {[]hist.Entry{k, at(20, 21, 0, o)}, true}, {[]hist.Entry{k, at(20, 0, 0, o)}, true},
		{[]hist.Entry{k, at(20, 21, math.MaxInt, o)}, false}, {[]hist.Entry{k, at(math.MaxInt-1, math.MaxInt, math.MaxInt, o)}, false},
		{[]hist.Entry{k, asSweep(at(20, 21, 22, o))}, true}, {[]hist.Entry{k, at(20, 21, 22, cancel(0))}, true}, {[]hist.Entry{k, at(20, 21, 22, limit(0, 5))}, true},
		// Behind an until: by when it ended.
		{[]hist.Entry{k, r, at(20, 21, 29, o)}, false}, {[]hist.Entry{k, r, at(20, 21, 30, o)}, false}, {[]hist.Entry{k, r, at(20, 21, 31, o)}, true},
		{[]hist.Entry{k, r, at(29, 34, 35, o)}, true}, {[]hist.Entry{k, r, at(31, 34, 35, o)}, true}, {[]hist.Entry{r, at(24, 25, 26, o), k}, false},
		// One that ended late stands ahead of one that ended early.
		{[]hist.Entry{k, r, at(20, 35, 40, o), at(22, 23, 24, o)}, false}, {[]hist.Entry{k, r, at(22, 35, 40, o), at(20, 23, 24, o)}, false},
		{[]hist.Entry{k, r, at(20, 35, 40, o), at(12, 23, 24, o)}, true}, {[]hist.Entry{k, at(31, 40, 50, kill()), r, at(32, 41, 45, o)}, true},
		// One that isn't a message that may be is an Order all the same: it is Malformed then, if all is as it should be.
		{[]hist.Entry{k, at(20, 21, 22, model.Op{Msg: wire.Msg{Id: 5}})}, false},
		{[]hist.Entry{k, answered(at(20, 21, 22, model.Op{Msg: wire.Msg{Id: 5}}), api.Malformed)}, true},
		// What isn't a Kill that ended OK stops nothing.
		{[]hist.Entry{at(2, 5, 0, kill()), at(20, 21, 22, o)}, true}, {[]hist.Entry{answered(k, api.Malformed), at(20, 21, 22, o)}, true}, {[]hist.Entry{asSweep(k), at(20, 21, 22, o)}, true},
	} {
		if stopped(t, w.l, nil, nil) != w.want {
			t.Errorf("%d: %+v: not %v", i, w.l, w.want)
		}
	}
	for code := api.Code(-2); code < 25; code++ {
		for _, answer := range []model.Answer{{Code: code}, {Code: code, Id: 3}} {
			e := at(20, 21, 22, o)
			e.Answer = answer
			if want := code == api.Killed || code == api.Malformed; stopped(t, []hist.Entry{k, e}, nil, nil) != want {
				t.Error(code)
			}
		}
	}
}

// P14.1: all Kills, Rearms and Orders of small times, in any places, one of each or more.
func TestStoppedOfAny(t *testing.T) {
	r := rand.New(rand.NewSource(4))
	ends := []int{0, 0, 1, 2, 3, 4, 5, 6, 7, 8, 9, -1, math.MaxInt, math.MaxInt - 1, math.MinInt, math.MinInt + 1}
	met := map[bool]int{}
	for range 60000 {
		few := ends[:11]
		if r.Intn(4) == 0 {
			few = ends
		}
		time := func() int { return few[r.Intn(len(few))] }
		var l []hist.Entry
		for range r.Intn(7) {
			e := at(time(), time(), time(), []model.Op{kill(), kill(), rearm(), order(0, 1), cancel(0)}[r.Intn(5)])
			if r.Intn(4) == 0 {
				e.Answer.Code = api.Code(r.Intn(4))
			}
			e.Op.Sweep = r.Intn(9) == 0
			l = append(l, e)
		}
		out := make([]model.Out, r.Intn(4))
		for i := range out {
			out[i].Kind = r.Intn(2)
		}
		times := make([]int, r.Intn(4))
		for i := range times {
			times[i] = time()
		}
		met[stopped(t, l, out, times)]++
	}
	if met[true] < 10000 || met[false] < 5000 {
		t.Error("hardly met:", met)
	}
}

// P14.1: many Kills, Rearms and Orders at once, spread over a long time.
func TestStoppedOfMore(t *testing.T) {
	r := rand.New(rand.NewSource(5))
	met := map[bool]int{}
	for range 3000 {
		var l []hist.Entry
		var out []model.Out
		var times []int
		for range 60 {
			begin := r.Intn(1000)
			e := at(begin, begin+1+r.Intn(5), begin+6+r.Intn(5), []model.Op{kill(), rearm(), order(0, 1)}[r.Intn(3)])
			if e.Op.Msg.Kind == wire.Order && r.Intn(30) > 0 {
				e.Answer.Code = api.Killed
			}
			l = append(l, e)
		}
		if r.Intn(2) == 0 {
			out, times = []model.Out{{}}, []int{r.Intn(1000)}
		}
		met[stopped(t, l, out, times)]++
	}
	if met[true] < 500 || met[false] < 500 {
		t.Error("hardly met:", met)
	}
}

// P1: very many at once: it ends in a time that one can wait for.
func TestStoppedOfMany(t *testing.T) {
	const n = 100000
	var l []hist.Entry
	out, times := make([]model.Out, n), make([]int, n)
	for i := range n {
		l = append(l, at(10*i, 10*i+1, 10*i+2, kill()), at(10*i+5, 10*i+6, 10*i+7, rearm()), at(10*i+6, 10*i+8, 10*i+9, order(0, 1)))
		times[i] = 10*i + 8
	}
	r := rand.New(rand.NewSource(6))
	r.Shuffle(len(l), func(i, j int) { l[i], l[j] = l[j], l[i] })
	r.Shuffle(n, func(i, j int) { times[i], times[j] = times[j], times[i] })
	if !audit.Stopped(l, out, times) {
		t.Error("it is Stopped")
	}
	times[77] = 10*60000 + 3
	if audit.Stopped(l, out, times) {
		t.Error("it isn't Stopped any more")
	}
}

// FuzzAudit goes on from the seeds by: go test -fuzz FuzzAudit ./audit
func FuzzAudit(f *testing.F) {
	f.Add([]byte{1, 4, 2, 5, 8, 0, 5, 9, 10, 11, 0, 0, 10, 11, 12, 0}, []byte{9, 2})
	f.Add([]byte("was all as it should be? it is asked of any lists"), []byte("such as came about or not"))
	f.Fuzz(func(t *testing.T, b, times []byte) {
		a := all{config: config(2), workers: 2}
		for entry := range slices.Chunk(b[:min(len(b), 400)], 5) {
			e := [5]byte{}
			copy(e[:], entry)
			op := []model.Op{order(int(e[4]%5), int64(e[4]%13)), kill(), rearm(), limit(int(e[4]%6), int64(e[4])), sweep(int(e[4]%3), 0), fill(int(e[4]%5), 1), {Msg: wire.Msg{Order: rules.Order{Qty: 1}}}}[e[0]%7]
			a.list = append(a.list, hist.Entry{Who: int(e[0] >> 7), Begin: int(e[1]), Mark: int(e[2]), End: int(e[3]), Op: op, Answer: model.Answer{Code: api.Code(e[4] >> 5)}})
		}
		for _, x := range times {
			a.out, a.at = append(a.out, model.Out{Kind: int(x & 1)}), append(a.at, int(x>>1))
		}
		stopped(t, a.list, a.out, a.at)
		if got, want := audit.Held(a.config, a.workers, a.list), isHeld(a.config, a.workers, a.list); got != want {
			t.Fatalf("Held: %v; want %v: %+v", got, want, a.list)
		}
		if got, want := a.check(), words(a); got != want {
			t.Fatalf("%q; want %q: %+v", got, want, a)
		}
	})
}
