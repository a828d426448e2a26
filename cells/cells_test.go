package cells_test

import (
	"math"
	"math/rand"
	"testing"

	"stopgate/api"
	"stopgate/cells"
)

// What may be asked of Cells.
const (
	load = iota
	store
	swap
	take
	free
	kinds
)

// step is one thing that is asked: of a word or a latch at a place; what it hasn't counts for nothing.
type step struct {
	kind, at, who int
	old, v        int64
}

// reply is what is answered: a number of a load, else whether it was done.
type reply struct {
	n  int64
	ok bool
}

// ask asks c for it; a store, which answers nothing, is answered a zero reply.
func ask(c *cells.Cells, s step) reply {
	switch s.kind {
	case load:
		return reply{n: c.Load(s.at)}
	case store:
		c.Store(s.at, s.v)
	case swap:
		return reply{ok: c.Swap(s.at, s.old, s.v)}
	case take:
		return reply{ok: c.Take(s.who, s.at)}
	case free:
		return reply{ok: c.Free(s.who, s.at)}
	}
	return reply{}
}

// past is all accesses that ever were, with what was answered: each answer is looked up in it anew, from the youngest one back.
type past struct {
	words, latches int
	done           []step
	replies        []reply
}

func (p *past) word(w int) int64 {
	for i := len(p.done) - 1; i >= 0; i-- {
		s := p.done[i]
		if s.at == w && (s.kind == store || s.kind == swap && p.replies[i].ok) {
			return s.v
		}
	}
	return 0
}

func (p *past) holder(l int) int {
	for i := len(p.done) - 1; i >= 0; i-- {
		s := p.done[i]
		if s.at == l && p.replies[i].ok && s.kind == take {
			return s.who
		}
		if s.at == l && p.replies[i].ok && s.kind == free {
			return -1
		}
	}
	return -1
}

// isAccess: of what there is, by somebody.
func (p *past) isAccess(s step) bool {
	if s.kind == take || s.kind == free {
		return s.at >= 0 && s.at < p.latches && s.who >= 0
	}
	return s.at >= 0 && s.at < p.words
}

func (p *past) ask(s step) reply {
	if !p.isAccess(s) {
		return reply{}
	}
	var r reply
	switch s.kind {
	case load:
		r.n = p.word(s.at)
	case swap:
		r.ok = p.word(s.at) == s.old
	case take:
		r.ok = p.holder(s.at) == -1
	case free:
		r.ok = p.holder(s.at) == s.who
	}
	p.done, p.replies = append(p.done, s), append(p.replies, r)
	return r
}

// both is Cells beside their past.
type both struct {
	c *cells.Cells
	p past
}

func begin(t *testing.T, words, latches int) *both {
	t.Helper()
	c, code := cells.New(words, latches)
	if c == nil || code != api.OK {
		t.Fatalf("New of %d, %d: %v, %v", words, latches, c, code.Word())
	}
	b := &both{c: c, p: past{words: words, latches: latches}}
	b.hold(t)
	return b
}

// do asks both, and holds one against the other.
func (b *both) do(t *testing.T, s step) reply {
	t.Helper()
	was := b.c.Time()
	r := ask(b.c, s)
	if want := b.p.ask(s); r != want {
		t.Fatalf("%+v behind %+v: %+v; want %+v", s, b.p.done, r, want)
	}
	if took := b.c.Time() - was; took != 0 && took != 1 || (took == 1) != b.p.isAccess(s) {
		t.Fatalf("%+v took %d of the Time", s, took)
	}
	return r
}

// hold holds all that is to be seen without an access, of what there is and of the places beside it; looking must not count.
func (b *both) hold(t *testing.T) {
	t.Helper()
	for range 2 {
		if now := b.c.Time(); now != len(b.p.done) {
			t.Fatalf("Time behind %+v: %d", b.p.done, now)
		}
		for w := -1; w <= b.p.words; w++ {
			if v := b.c.Peek(w); v != b.p.word(w) {
				t.Fatalf("Peek of %d behind %+v: %d; want %d", w, b.p.done, v, b.p.word(w))
			}
		}
		for l := -1; l <= b.p.latches; l++ {
			if who := b.c.Holder(l); who != b.p.holder(l) {
				t.Fatalf("Holder of %d behind %+v: %d; want %d", l, b.p.done, who, b.p.holder(l))
			}
		}
	}
}

// P8.1, by what the document writes out.
func TestExamples(t *testing.T) {
	c, _ := cells.New(0, 1)
	for i, w := range []struct {
		s    step
		want bool
	}{
		{step{kind: take, who: 0}, true},
		{step{kind: take, who: 1}, false},
		{step{kind: free, who: 1}, false},
	} {
		if r := ask(c, w.s); r.ok != w.want || c.Time() != i+1 || c.Holder(0) != 0 {
			t.Errorf("%d: %v, Time %d, Holder %d", i, r.ok, c.Time(), c.Holder(0))
		}
	}
}

// P8.1: what New takes, and what it makes: so many words and so many latches, no more, all fresh.
func TestNew(t *testing.T) {
	sizes := []int{math.MinInt, -65536, -2, -1, 0, 1, 2, 7, 65535, 65536, 65537, 65538, 1 << 32, math.MaxInt}
	for _, words := range sizes {
		for _, latches := range sizes {
			c, code := cells.New(words, latches)
			if words < 0 || words > 65536 || latches < 0 || latches > 65536 {
				if c != nil || code != api.Malformed {
					t.Errorf("New of %d, %d: %v, %v", words, latches, c != nil, code.Word())
				}
				continue
			}
			if c == nil || code != api.OK {
				t.Fatalf("New of %d, %d: %v, %v", words, latches, c != nil, code.Word())
			}
			holdFresh(t, c, words, latches)
		}
	}
}

func holdFresh(t *testing.T, c *cells.Cells, words, latches int) {
	t.Helper()
	if c.Time() != 0 {
		t.Error("Time:", c.Time())
	}
	for w := range words {
		if v := c.Peek(w); v != 0 {
			t.Fatalf("word %d: %d", w, v)
		}
	}
	for l := range latches {
		if who := c.Holder(l); who != -1 {
			t.Fatalf("latch %d: %d", l, who)
		}
	}
	// The last one is there, the one behind it isn't: by whether an access counts.
	now := 0
	for _, w := range []int{words - 1, words} {
		c.Store(w, 5)
		if w >= 0 && w < words {
			now++
		}
		if c.Time() != now {
			t.Fatalf("word %d of %d: Time %d", w, words, c.Time())
		}
	}
	for _, l := range []int{latches - 1, latches} {
		there := l >= 0 && l < latches
		if there {
			now++
		}
		if c.Take(3, l) != there || c.Time() != now {
			t.Fatalf("latch %d of %d: Time %d", l, latches, c.Time())
		}
	}
}

// P8.1: a word is what was stored or swapped last; a Swap that thinks wrong changes nothing, and counts.
func TestWord(t *testing.T) {
	const least, most = math.MinInt64, math.MaxInt64
	b := begin(t, 3, 0)
	for i, w := range []struct {
		s    step
		want reply
		now  int64 // the word 1 then
	}{
		{step{kind: load, at: 1}, reply{}, 0},
		{step{kind: swap, at: 1, old: 1, v: 2}, reply{}, 0},
		{step{kind: swap, at: 1, old: 0, v: 0}, reply{ok: true}, 0},
		{step{kind: swap, at: 1, old: 0, v: 2}, reply{ok: true}, 2},
		{step{kind: load, at: 1}, reply{n: 2}, 2},
		{step{kind: swap, at: 1, old: 0, v: 3}, reply{}, 2},
		{step{kind: load, at: 0}, reply{}, 2},
		{step{kind: store, at: 1, v: least}, reply{}, least},
		{step{kind: load, at: 1}, reply{n: least}, least},
		{step{kind: swap, at: 1, old: most, v: 1}, reply{}, least},
		{step{kind: swap, at: 1, old: least, v: most}, reply{ok: true}, most},
		{step{kind: load, at: 1}, reply{n: most}, most},
		{step{kind: store, at: 1, v: most}, reply{}, most},
		{step{kind: swap, at: 1, old: least, v: 1}, reply{}, most},
		{step{kind: swap, at: 1, old: most, v: most}, reply{ok: true}, most},
		{step{kind: store, at: 1, v: 1<<32 + 5}, reply{}, 1<<32 + 5},
		{step{kind: swap, at: 1, old: 5, v: 6}, reply{}, 1<<32 + 5},
		{step{kind: store, at: 1, v: -1}, reply{}, -1},
		{step{kind: load, at: 1}, reply{n: -1}, -1},
		{step{kind: store, at: 1}, reply{}, 0},
	} {
		r := b.do(t, w.s)
		b.hold(t)
		if r != w.want || b.c.Peek(1) != w.now || b.c.Peek(0) != 0 || b.c.Peek(2) != 0 || b.c.Time() != i+1 {
			t.Errorf("%d: %+v, then %d, Time %d", i, r, b.c.Peek(1), b.c.Time())
		}
	}
}

// P8.1: a latch is who took it while it was nobody's, till just that one frees it; all tries count.
func TestLatch(t *testing.T) {
	const most = math.MaxInt
	b := begin(t, 0, 3)
	for i, w := range []struct {
		kind, who int
		want      bool
		now       int // whose the latch 1 is then
	}{
		{free, 0, false, -1},
		{free, 1, false, -1},
		{take, 0, true, 0},
		{take, 0, false, 0}, // its own, too
		{take, 1, false, 0},
		{free, 1, false, 0},
		{free, 0, true, -1},
		{free, 0, false, -1},
		{take, 1, true, 1},
		{free, 0, false, 1},
		{free, 1, true, -1},
		{take, most, true, most},
		{take, most - 1, false, most},
		{free, most - 1, false, most},
		{free, most, true, -1},
		{free, most, false, -1},
		{take, 1 << 32, true, 1 << 32},
		{free, 0, false, 1 << 32},
	} {
		r := b.do(t, step{kind: w.kind, at: 1, who: w.who})
		b.hold(t)
		if r.ok != w.want || b.c.Holder(1) != w.now || b.c.Holder(0) != -1 || b.c.Holder(2) != -1 || b.c.Time() != i+1 {
			t.Errorf("%d: %v, then %d, Time %d", i, r.ok, b.c.Holder(1), b.c.Time())
		}
	}
}

// P8.1: one may have several latches, and words and latches of one place are two things.
func TestWordsAndLatchesApart(t *testing.T) {
	b := begin(t, 2, 2)
	for _, s := range []step{
		{kind: take, at: 0, who: 4}, {kind: take, at: 1, who: 4}, {kind: store, at: 0, v: 8},
		{kind: free, at: 0, who: 8}, {kind: swap, at: 1, old: 4, v: 9}, {kind: free, at: 0, who: 4},
		{kind: swap, at: 0, old: 8, v: -1}, {kind: take, at: 0, who: 0}, {kind: load, at: 0},
	} {
		b.do(t, s)
		b.hold(t)
	}
	if b.c.Peek(0) != -1 || b.c.Peek(1) != 0 || b.c.Holder(0) != 0 || b.c.Holder(1) != 4 || b.c.Time() != 9 {
		t.Error(b.c.Peek(0), b.c.Peek(1), b.c.Holder(0), b.c.Holder(1), b.c.Time())
	}
}

// P8.1: all rows of up to four steps, of one word and one latch, with steps that are none among them.
func TestAllShortRows(t *testing.T) {
	steps := []step{
		{kind: load}, {kind: load, at: 1}, {kind: store, v: 1}, {kind: store, at: 1, v: 1},
		{kind: swap, v: 1}, {kind: swap, old: 1, v: 2}, {kind: swap, at: -1, v: 1},
		{kind: take}, {kind: take, who: 1}, {kind: take, who: -1}, {kind: take, at: 1},
		{kind: free}, {kind: free, who: 1}, {kind: free, who: -1}, {kind: free, at: -1},
	}
	const length = 4
	rows := 1
	for range length {
		rows *= len(steps)
	}
	for row := range rows {
		b := begin(t, 1, 1)
		for range length {
			b.do(t, steps[row%len(steps)])
			b.hold(t)
			row /= len(steps)
		}
	}
}

// walk goes on by what the bytes say, by places and workers that there are and by others; met: how often a kind answered a bool.
func walk(t *testing.T, script []byte, met map[step]int) {
	t.Helper()
	next := func() int {
		if len(script) == 0 {
			return 0
		}
		n := int(script[0])
		script = script[1:]
		return n
	}
	b := begin(t, next()%5, next()%5)
	for len(script) > 0 {
		s := step{kind: next() % kinds, at: next()%7 - 1, who: next()%5 - 1, old: int64(next()%4 - 1), v: int64(next()%4 - 1)}
		if s.kind == free && s.old > 0 {
			s.who = b.p.holder(s.at) // else hardly one of these is true
		}
		r := b.do(t, s)
		b.hold(t)
		k := step{kind: s.kind}
		if r.ok {
			k.v = 1
		}
		if b.p.isAccess(s) {
			k.at = 1
		}
		met[k]++
	}
}

// P8.1: many steps of all kinds, each one held against all that ever were.
func TestManySteps(t *testing.T) {
	draw := rand.New(rand.NewSource(8))
	met := map[step]int{}
	for range 300 {
		script := make([]byte, 600)
		draw.Read(script)
		walk(t, script, met)
	}
	for kind := range kinds {
		want := []step{{kind: kind, at: 1}, {kind: kind}}
		if kind > store {
			want = append(want, step{kind: kind, at: 1, v: 1})
		}
		for _, k := range want {
			if met[k] < 100 {
				t.Error("hardly met:", k, met[k])
			}
		}
	}
}

// P8.1: the greatest Cells that may be: each place is one of its own.
func TestGreatest(t *testing.T) {
	const most = api.MaxWords
	c, code := cells.New(most, most)
	if code != api.OK {
		t.Fatal(code.Word())
	}
	for i := range most {
		c.Store(i, int64(7*i-most))
		if !c.Take(3*i, i) {
			t.Fatal(i)
		}
	}
	for i := range most {
		if v := c.Load(i); v != int64(7*i-most) || v != c.Peek(i) || c.Holder(i) != 3*i {
			t.Fatalf("%d: %d, %d, %d", i, v, c.Peek(i), c.Holder(i))
		}
	}
	for i := range most {
		if !c.Swap(i, int64(7*i-most), -1) || c.Free(3*i+1, i) || !c.Free(3*i, i) {
			t.Fatal(i)
		}
	}
	if c.Time() != 6*most {
		t.Error("Time:", c.Time())
	}
}

// none is all steps of which there is nothing in Cells of so many words and latches.
func none(words, latches int) []step {
	var l []step
	for kind := range kinds {
		there := words
		if kind == take || kind == free {
			there = latches
		}
		for _, at := range []int{math.MinInt, -there, -2, -1, there, there + 1, 65535, 65536, 1 << 32, math.MaxInt} {
			if at < 0 || at >= there {
				l = append(l, step{kind: kind, at: at, v: 9}, step{kind: kind, at: at, who: 1, v: 9}, step{kind: kind, at: at, who: -1, v: 9})
			}
		}
	}
	for at := range latches {
		for _, who := range []int{-1, -2, math.MinInt, -1 << 32} {
			l = append(l, step{kind: take, at: at, who: who}, step{kind: free, at: at, who: who})
		}
	}
	return l
}

// P8.1, P1: of a word or a latch that there isn't, and of a who below 0, nothing is done, and the Time stays.
func TestWhatThereIsnt(t *testing.T) {
	for words := range 4 {
		for latches := range 4 {
			b := begin(t, words, latches)
			for _, s := range []step{{kind: store, at: 0, v: 3}, {kind: store, at: 2, v: 4}, {kind: take, at: 1, who: 1}, {kind: take, at: 2}} {
				b.do(t, s)
			}
			was := b.c.Time()
			for _, s := range none(words, latches) {
				if r := b.do(t, s); r != (reply{}) || b.c.Time() != was {
					t.Fatalf("%d, %d: %+v: %+v, Time %d", words, latches, s, r, b.c.Time())
				}
				b.hold(t)
			}
		}
	}
}

// P8.1: Peek and Holder of what there isn't.
func TestNothingToSee(t *testing.T) {
	b := begin(t, 2, 3)
	for i := range 3 {
		b.do(t, step{kind: store, at: i, v: 5})
		b.do(t, step{kind: take, at: i, who: 5})
	}
	for _, at := range []int{math.MinInt, -65536, -3, -2, -1, 3, 4, 65535, 65536, 1 << 32, math.MaxInt} {
		if v, who := b.c.Peek(at), b.c.Holder(at); v != 0 || who != -1 {
			t.Errorf("%d: %d, %d", at, v, who)
		}
	}
	if b.c.Peek(2) != 0 || b.c.Holder(2) != 5 || b.c.Time() != 5 {
		t.Error(b.c.Peek(2), b.c.Holder(2), b.c.Time())
	}
}

// P8.1, P1: nil Cells, and such as New hasn't made, which have neither words nor latches.
func TestNilAndZero(t *testing.T) {
	for name, c := range map[string]*cells.Cells{"nil": nil, "zero": {}} {
		for range 2 {
			for _, at := range []int{math.MinInt, -1, 0, 1, math.MaxInt} {
				for _, who := range []int{math.MinInt, -1, 0, 1, math.MaxInt} {
					for kind := range kinds {
						if r := ask(c, step{kind: kind, at: at, who: who}); r != (reply{}) {
							t.Errorf("%s: %d of %d by %d: %+v", name, kind, at, who, r)
						}
					}
				}
				if v, who := c.Peek(at), c.Holder(at); v != 0 || who != -1 {
					t.Errorf("%s: %d: %d, %d", name, at, v, who)
				}
			}
			if c.Time() != 0 {
				t.Errorf("%s: Time %d", name, c.Time())
			}
		}
	}
}

// Rules 4 and 5: Cells share nothing with others, and hang on what was done with them alone.
func TestCellsApart(t *testing.T) {
	draw := rand.New(rand.NewSource(9))
	l := []*both{begin(t, 2, 2), begin(t, 2, 2), begin(t, 2, 2)}
	for range 2000 {
		s := step{kind: draw.Intn(kinds), at: draw.Intn(2), who: draw.Intn(2), old: int64(draw.Intn(2)), v: int64(draw.Intn(2))}
		l[draw.Intn(2)].do(t, s)
	}
	l = append(l, begin(t, 2, 2))
	for _, b := range l {
		b.hold(t)
	}
}

// FuzzCells goes on from the seeds by: go test -fuzz FuzzCells ./cells
func FuzzCells(f *testing.F) {
	f.Add([]byte{2, 1, 3, 1, 1, 0, 0, 3, 1, 2, 0, 0, 4, 1, 2, 0, 0, 4, 1, 1, 0, 0})
	f.Add([]byte{1, 0, 1, 1, 0, 0, 3, 2, 1, 0, 3, 2, 0, 1, 0, 0, 0})
	f.Add([]byte("what all workers share, access by access"))
	f.Fuzz(func(t *testing.T, script []byte) {
		walk(t, script[:min(len(script), 2000)], map[step]int{})
	})
}
