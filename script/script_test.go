package script_test

import (
	"bytes"
	"math"
	"math/rand"
	"reflect"
	"slices"
	"testing"

	"stopgate/api"
	"stopgate/floor"
	"stopgate/hist"
	"stopgate/rules"
	"stopgate/script"
	"stopgate/tree"
	"stopgate/wire"
)

// told is the Config that the chapter tells of the first bytes, number by number.
func told(b []byte) rules.Config {
	at := func(i int) int {
		if i < len(b) {
			return int(b[i])
		}
		return 0
	}
	c := rules.Config{Accounts: []int{2, 3, 2}}
	c.Shards = []int{1, 2, 3}[at(0)%3]
	c.Window = []int{0, 1, 2, 3}[at(1)%4]
	c.Rate = []int{1, 2, 3, 4, 5, 6}[at(2)%6]
	c.Table = []int{1, 2, 3, 4, 5, 6}[at(3)%6]
	c.Nodes = []tree.Node{
		{Parent: -1, Cap: int64(100*at(4) + 100)}, {Parent: 0, Cap: int64(100*at(5) + 100)},
		{Parent: 1, Cap: int64(50*at(6) + 50)}, {Parent: 1, Cap: int64(50*at(7) + 50)},
	}
	c.Symbols = []rules.Symbol{{Price: 100, Qty: 50, Worth: 3000, Band: 0.1}, {Price: 10, Qty: 1000, Worth: 10000, Band: 0.5}}
	return c
}

// kinds is the chapter's row of kinds, by x mod 16; of 13 it hangs on z.
var kinds = []int{
	wire.Order, wire.Order, wire.Order, wire.Order, wire.Order, wire.Order, wire.Order, wire.Cancel,
	wire.Fill, wire.Fill, wire.Fill, wire.Ack, wire.Ack, wire.Limit, wire.Rearm, wire.Kill,
}

// said is the worker, and the message, that the chapter tells of four bytes.
func said(x, y, z, v int) (int, wire.Msg) {
	who, m := (x>>4)%3, wire.Msg{Kind: kinds[x&15]}
	switch m.Kind {
	case wire.Order:
		m.Order = rules.Order{Account: y % 3, Symbol: (y >> 2) & 1, Sell: y&128 != 0, Qty: int64(1 + z>>5), Number: int64(v & 15), Second: int64(v >> 4)}
		m.Order.Price = []int64{88 + int64(z)%25, 4 + int64(z)%14}[m.Order.Symbol]
	case wire.Cancel, wire.Ack:
		m.Id = y % 12
	case wire.Fill:
		m.Id, m.Qty = y%12, int64(1+z&3)
	case wire.Limit:
		if m.Node, m.Most = y%5, int64(10*z); z < 64 {
			m = wire.Msg{Kind: wire.Kill}
		}
	}
	return who, m
}

// toldLists is all messages of bytes, and the picks.
func toldLists(b []byte) ([3][]wire.Msg, []int) {
	var l [3][]wire.Msg
	var picks []int
	for i := 12; i < len(b); i++ {
		picks = append(picks, int(b[i]))
		if i%4 == 3 && i < 12+30*4 {
			who, m := said(int(b[i-3]), int(b[i-2]), int(b[i-1]), int(b[i]))
			l[who] = append(l[who], m)
		}
	}
	return l, picks
}

// read holds Read of bytes against the chapter's words.
func read(t testing.TB, b []byte) script.Script {
	t.Helper()
	s := script.Read(b)
	if want := told(b); !reflect.DeepEqual(s.Config, want) {
		t.Fatalf("Config of %v: %+v; want %+v", b, s.Config, want)
	}
	if code := rules.Check(s.Config); code != api.OK {
		t.Fatalf("Config of %v: %v", b, code.Word())
	}
	lists, picks := toldLists(b)
	if len(s.Lists) != 3 {
		t.Fatalf("%d Lists of %v", len(s.Lists), b)
	}
	for who := range lists {
		if !slices.Equal(s.Lists[who], lists[who]) {
			t.Fatalf("Lists of %v: of %d %+v; want %+v", b, who, s.Lists[who], lists[who])
		}
	}
	if !slices.Equal(s.Picks, picks) {
		t.Fatalf("Picks of %v: %v", b, s.Picks)
	}
	return s
}

// head is the bytes of a Config that is wide enough for anything.
func head() []byte { return []byte{2, 3, 5, 5, 255, 255, 255, 255, 0, 0, 0, 0} }

// P13.1: of no bytes, and of such as end within the Config: 0 where there is none.
func TestFewBytes(t *testing.T) {
	s := read(t, nil)
	want := rules.Config{
		Shards: 1, Rate: 1, Table: 1, Nodes: []tree.Node{{Parent: -1, Cap: 100}, {Parent: 0, Cap: 100}, {Parent: 1, Cap: 50}, {Parent: 1, Cap: 50}}, Accounts: []int{2, 3, 2},
		Symbols: []rules.Symbol{{Price: 100, Qty: 50, Worth: 3000, Band: 0.1}, {Price: 10, Qty: 1000, Worth: 10000, Band: 0.5}},
	}
	if !reflect.DeepEqual(s.Config, want) || len(s.Picks) != 0 || len(s.Lists) != 3 || len(s.Lists[0])+len(s.Lists[1])+len(s.Lists[2]) != 0 {
		t.Errorf("%+v", s)
	}
	if got := read(t, []byte{}); !reflect.DeepEqual(got.Config, want) {
		t.Errorf("%+v", got)
	}
	for n := range 20 {
		for _, b := range [][]byte{bytes.Repeat([]byte{255}, n), bytes.Repeat([]byte{1}, n), bytes.Repeat([]byte{14}, n), make([]byte, n)} {
			read(t, b)
			// What is behind the end isn't read, though it is there.
			read(t, append(slices.Clone(b), 77, 78, 79, 80, 81)[:n])
		}
	}
}

// P13.1: each byte of the Config, of any value, says its own number, and bytes 8 to 11 say nothing.
func TestConfig(t *testing.T) {
	for at := range 12 {
		for v := range 256 {
			for _, b := range [][]byte{make([]byte, 12), head(), {7, 7, 7, 7, 7, 7, 7, 7, 7, 7, 7, 7}} {
				b[at] = byte(v)
				s := read(t, b)
				if b[at] = 0; at >= 8 && !reflect.DeepEqual(s, script.Read(b)) {
					t.Fatal(at, v)
				}
			}
		}
	}
	c := script.Read([]byte{2, 3, 5, 5, 255, 254, 253, 252}).Config
	if c.Shards != 3 || c.Window != 3 || c.Rate != 6 || c.Table != 6 || c.Nodes[0].Cap != 25600 || c.Nodes[1].Cap != 25500 || c.Nodes[2].Cap != 12700 || c.Nodes[3].Cap != 12650 {
		t.Errorf("%+v", c)
	}
	if c = script.Read([]byte{255, 255, 255, 255}).Config; c.Shards != 1 || c.Window != 3 || c.Rate != 4 || c.Table != 4 {
		t.Errorf("%+v", c)
	}
}

// P13.1: messages that are written out.
func TestSomeMessages(t *testing.T) {
	for i, w := range []struct {
		b   [4]byte
		who int
		m   wire.Msg
	}{
		{[4]byte{0, 0, 0, 0}, 0, wire.Msg{Order: rules.Order{Price: 88, Qty: 1}}},
		{[4]byte{6, 255, 255, 255}, 0, wire.Msg{Order: rules.Order{Symbol: 1, Sell: true, Price: 7, Qty: 8, Number: 15, Second: 15}}},
		{[4]byte{16, 4, 33, 18}, 1, wire.Msg{Order: rules.Order{Account: 1, Symbol: 1, Price: 9, Qty: 2, Number: 2, Second: 1}}},
		{[4]byte{33, 128, 24, 31}, 2, wire.Msg{Order: rules.Order{Account: 2, Sell: true, Price: 112, Qty: 1, Number: 15, Second: 1}}},
		{[4]byte{48, 127, 25, 32}, 0, wire.Msg{Order: rules.Order{Account: 1, Symbol: 1, Price: 15, Qty: 1, Second: 2}}},
		{[4]byte{51, 11, 49, 1}, 0, wire.Msg{Order: rules.Order{Account: 2, Price: 112, Qty: 2, Number: 1}}},
		{[4]byte{5, 4, 13, 16}, 0, wire.Msg{Order: rules.Order{Account: 1, Symbol: 1, Price: 17, Qty: 1, Second: 1}}},
		{[4]byte{5, 4, 14, 16}, 0, wire.Msg{Order: rules.Order{Account: 1, Symbol: 1, Price: 4, Qty: 1, Second: 1}}},
		{[4]byte{7, 11, 9, 9}, 0, wire.Msg{Kind: wire.Cancel, Id: 11}},
		{[4]byte{7 + 64, 12, 0, 0}, 1, wire.Msg{Kind: wire.Cancel}},
		{[4]byte{8, 255, 255, 7}, 0, wire.Msg{Kind: wire.Fill, Id: 3, Qty: 4}},
		{[4]byte{9 + 32, 4, 4, 0}, 2, wire.Msg{Kind: wire.Fill, Id: 4, Qty: 1}},
		{[4]byte{10, 24, 1, 0}, 0, wire.Msg{Kind: wire.Fill, Qty: 2}},
		{[4]byte{11, 23, 1, 1}, 0, wire.Msg{Kind: wire.Ack, Id: 11}},
		{[4]byte{12, 1, 64, 1}, 0, wire.Msg{Kind: wire.Ack, Id: 1}},
		{[4]byte{13, 4, 64, 1}, 0, wire.Msg{Kind: wire.Limit, Node: 4, Most: 640}},
		{[4]byte{13, 5, 255, 0}, 0, wire.Msg{Kind: wire.Limit, Most: 2550}},
		{[4]byte{13, 3, 63, 0}, 0, wire.Msg{Kind: wire.Kill}},
		{[4]byte{13, 3, 0, 0}, 0, wire.Msg{Kind: wire.Kill}},
		{[4]byte{14, 3, 70, 4}, 0, wire.Msg{Kind: wire.Rearm}},
		{[4]byte{15, 3, 70, 4}, 0, wire.Msg{Kind: wire.Kill}},
		{[4]byte{255, 0, 0, 0}, 0, wire.Msg{Kind: wire.Kill}},
		{[4]byte{0xef, 0, 0, 0}, 2, wire.Msg{Kind: wire.Kill}},
		{[4]byte{0xde, 0, 0, 0}, 1, wire.Msg{Kind: wire.Rearm}},
	} {
		s := script.Read(append(head(), w.b[:]...))
		for who, l := range s.Lists {
			if want := who == w.who; len(l) != map[bool]int{true: 1}[want] || want && l[0] != w.m {
				t.Errorf("%d: of %d: %+v; want %+v of %d", i, who, l, w.m, w.who)
			}
		}
	}
}

// P13.1: messages of any first byte, beside any other one; each of them is wire.Right.
func TestAllMessages(t *testing.T) {
	r := rand.New(rand.NewSource(1))
	for x := range 256 {
		for n := range 256 {
			b := append(head(), byte(x), byte(n), byte(r.Intn(256)), byte(r.Intn(256)), byte(x), byte(r.Intn(256)), byte(n), byte(r.Intn(256)), byte(x), 7, 8, byte(n))
			for _, l := range read(t, b).Lists {
				for _, m := range l {
					if !wire.Right(m) {
						t.Fatalf("%v: %+v", b, m)
					}
				}
			}
		}
	}
}

// P13.1: as long as there are four bytes, and 30 messages at most of all workers; all bytes are picks.
func TestHowMany(t *testing.T) {
	r := rand.New(rand.NewSource(2))
	for n := range 300 {
		b := make([]byte, n)
		r.Read(b)
		s := read(t, b)
		msgs := len(s.Lists[0]) + len(s.Lists[1]) + len(s.Lists[2])
		if want := min(max(n-12, 0)/4, 30); msgs != want || len(s.Picks) != max(n-12, 0) {
			t.Errorf("of %d bytes %d messages, %d picks", n, msgs, len(s.Picks))
		}
	}
	// All of one worker: 30, and not one more.
	one := append(head(), bytes.Repeat([]byte{0x10, 0, 0, 0}, 31)...)
	if s := read(t, one); len(s.Lists[1]) != 30 || len(s.Picks) != 124 {
		t.Error(len(s.Lists[1]), len(s.Picks))
	}
	if s := read(t, one[:12+119]); len(s.Lists[1]) != 29 {
		t.Error(len(s.Lists[1]))
	}
	// Those behind are left, also where they are another worker's.
	if s := read(t, append(one[:12+120], 0, 0, 0, 0, 0x20, 0, 0, 0)); len(s.Lists[0])+len(s.Lists[2]) != 0 {
		t.Error(s.Lists)
	}
	many := make([]byte, 100000)
	r.Read(many)
	read(t, many)
}

// P13.1: each worker's messages are in the order of the bytes.
func TestOrderOfMessages(t *testing.T) {
	var b []byte
	for n := range 30 {
		b = append(b, byte(n%3*16+7), byte(n%12), 0, 0)
	}
	s := read(t, append(head(), b...))
	for who, l := range s.Lists {
		for i, m := range l {
			if m.Id != (3*i+who)%12 {
				t.Error(who, i, m)
			}
		}
	}
}

// same holds what two Floors have done, and what they have to do, against one another.
func same(t testing.TB, f, g *floor.Floor, workers int) {
	t.Helper()
	fOut, fAt := f.Gate().Out()
	gOut, gAt := g.Gate().Out()
	if !slices.Equal(f.Gate().Log(), g.Gate().Log()) || !slices.Equal(fOut, gOut) || !slices.Equal(fAt, gAt) || f.Gate().Cells().Time() != g.Gate().Cells().Time() {
		t.Fatalf("%+v; want %+v", f.Gate().Log(), g.Gate().Log())
	}
	for who := range workers {
		if f.Left(who) != g.Left(who) {
			t.Fatalf("Left of %d: %d; want %d", who, f.Left(who), g.Left(who))
		}
	}
}

// played holds Play against a Floor that is picked pick by pick.
func played(t testing.TB, s script.Script) *floor.Floor {
	t.Helper()
	g, code := floor.New(s.Config, s.Lists)
	f := script.Play(s)
	if (f != nil) != (code == api.OK) {
		t.Fatalf("%+v: %v; %v", s, f != nil, code.Word())
	}
	if f == nil {
		return nil
	}
	for _, k := range s.Picks {
		g.Pick(k)
	}
	same(t, f, g, len(s.Lists))
	return f
}

// P13.1: Play of what any bytes say: the picks were made, and no other ones.
func TestPlay(t *testing.T) {
	r := rand.New(rand.NewSource(3))
	done := 0
	for range 300 {
		b := make([]byte, r.Intn(2000))
		r.Read(b)
		s := script.Read(b)
		f := played(t, s)
		done += len(f.Gate().Log())
		if f.Rest(100000) < 0 || hist.Check(s.Config, 3, f.Gate().Log()) != -1 {
			t.Fatalf("%v: %+v", b, f.Gate().Log())
		}
	}
	if done < 5000 {
		t.Error("hardly anything was done:", done)
	}
	s := script.Read(append(head(), 0, 0, 0, 0))
	if s.Picks = nil; len(played(t, s).Gate().Log()) != 0 {
		t.Error("without picks")
	}
	if s.Picks = []int{3}; len(played(t, s).Gate().Log()) != 1 {
		t.Error("one pick")
	}
}

// P13.1: Play of Scripts that no bytes say: any lists and picks; nil, where there is no Floor.
func TestPlayOthers(t *testing.T) {
	for n := range 11 {
		s := script.Read(head())
		s.Lists = make([][]wire.Msg, n)
		for who := range s.Lists {
			s.Lists[who] = []wire.Msg{{Kind: wire.Kill}, {Kind: 77}, {Order: rules.Order{Price: 100, Qty: 1}}}
		}
		s.Picks = []int{0, -1, math.MaxInt, math.MinInt, 5, 5, 5, 5, 5, 77}
		if f := played(t, s); (f != nil) != (n >= 1 && n <= 8) {
			t.Error(n)
		}
	}
	for i, spoil := range []func(s *script.Script){
		func(s *script.Script) { s.Lists = nil },
		func(s *script.Script) { s.Config = rules.Config{} },
		func(s *script.Script) { s.Config.Shards = 0 },
		func(s *script.Script) { s.Config.Nodes[3].Parent = 9 },
		func(s *script.Script) { s.Config.Accounts = nil },
		func(s *script.Script) { s.Config.Symbols[0].Band = math.NaN() },
		func(s *script.Script) { *s = script.Script{} },
	} {
		s := script.Read(append(head(), 15, 0, 0, 0))
		if spoil(&s); played(t, s) != nil {
			t.Error(i)
		}
	}
}

// P13.3, rules 4 and 5: bytes aren't changed, nor kept; what is answered shares nothing.
func TestReadKeepsNothing(t *testing.T) {
	r := rand.New(rand.NewSource(4))
	for range 100 {
		b := make([]byte, 12+r.Intn(200))
		r.Read(b)
		was := slices.Clone(b)
		given := append(b, 1, 2, 3)[:len(b)]
		s, again := script.Read(given), script.Read(given)
		if !bytes.Equal(given, was) || !bytes.Equal(given[:len(b)+3][len(b):], []byte{1, 2, 3}) {
			t.Fatal("the bytes are changed")
		}
		if !reflect.DeepEqual(s, again) {
			t.Fatal("it answers otherwise")
		}
		clear(given)
		clear(again.Config.Nodes)
		clear(again.Config.Accounts)
		clear(again.Config.Symbols)
		clear(again.Picks)
		for who := range again.Lists {
			// Also into what room there is behind each list.
			for l := again.Lists[who]; len(l) < cap(l); {
				l = append(l, wire.Msg{Kind: 99})
			}
			if who > 0 {
				clear(again.Lists[who])
			}
		}
		first := slices.Clone(s.Lists[0])
		if !slices.Equal(again.Lists[0], first) {
			t.Fatal("two lists share something")
		}
		if !reflect.DeepEqual(s, script.Read(was)) {
			t.Fatal("it shares something")
		}
	}
}

// P13.3: of a Script nothing is changed, and nothing kept.
func TestPlayKeepsNothing(t *testing.T) {
	r := rand.New(rand.NewSource(5))
	for range 100 {
		b := make([]byte, 12+r.Intn(200))
		r.Read(b)
		s, was := script.Read(b), script.Read(b)
		f, g := script.Play(s), script.Play(was)
		if !reflect.DeepEqual(s, was) {
			t.Fatal("it is changed")
		}
		same(t, f, g, 3)
		clear(s.Config.Nodes)
		clear(s.Config.Accounts)
		clear(s.Config.Symbols)
		for _, l := range s.Lists {
			clear(l)
		}
		clear(s.Lists)
		clear(s.Picks)
		f.Run([]int{0, 1, 2, 1})
		g.Run([]int{0, 1, 2, 1})
		if got, want := f.Rest(math.MaxInt), g.Rest(math.MaxInt); got != want {
			t.Fatal(got, want)
		}
		same(t, f, g, 3)
	}
}

// FuzzRead goes on from the seeds by: go test -fuzz FuzzRead ./script
func FuzzRead(f *testing.F) {
	f.Add([]byte{1, 0, 0, 0, 9, 8, 7, 0, 0, 0, 0, 0, 16, 4, 33, 18, 15, 0, 0, 0, 40, 13, 5, 0, 1})
	f.Add([]byte("a Config, messages and picks, as bytes: what any bytes say"))
	f.Fuzz(func(t *testing.T, b []byte) {
		s := read(t, b)
		s.Picks = s.Picks[:min(len(s.Picks), 1000)]
		played(t, s)
	})
}
