package script_test

import (
	"math"
	"math/big"
	"math/rand"
	"regexp"
	"slices"
	"strings"
	"testing"

	"stopgate/rules"
	"stopgate/script"
	"stopgate/wire"
)

// P13.1: Lines that are written out, the document's examples first.
func TestSomeLines(t *testing.T) {
	for _, w := range []struct {
		m wire.Msg
		s string
	}{
		{wire.Msg{Order: rules.Order{Symbol: 1, Sell: true, Price: 12, Qty: 3, Number: 7}}, "order 0 1 sell 12 3 7 0"},
		{wire.Msg{Kind: wire.Fill, Id: 4, Qty: 2}, "fill 4 2"},
		{wire.Msg{}, "order 0 0 buy 0 0 0 0"},
		{wire.Msg{Order: rules.Order{Account: 1, Symbol: 2, Price: 3, Qty: 4, Number: 5, Second: 6}}, "order 1 2 buy 3 4 5 6"},
		{
			wire.Msg{Order: rules.Order{Account: 65535, Symbol: 65535, Sell: true, Price: math.MaxInt64, Qty: math.MaxInt64, Number: math.MaxInt64, Second: math.MaxInt64}},
			"order 65535 65535 sell 9223372036854775807 9223372036854775807 9223372036854775807 9223372036854775807",
		},
		{wire.Msg{Kind: wire.Cancel}, "cancel 0"}, {wire.Msg{Kind: wire.Cancel, Id: 1<<32 - 1}, "cancel 4294967295"},
		{wire.Msg{Kind: wire.Fill}, "fill 0 0"}, {wire.Msg{Kind: wire.Fill, Id: 1<<32 - 1, Qty: math.MaxInt64}, "fill 4294967295 9223372036854775807"},
		{wire.Msg{Kind: wire.Ack, Id: 10}, "ack 10"}, {wire.Msg{Kind: wire.Ack, Id: 1<<32 - 1}, "ack 4294967295"},
		{wire.Msg{Kind: wire.Kill}, "kill"}, {wire.Msg{Kind: wire.Rearm}, "rearm"},
		{wire.Msg{Kind: wire.Limit, Node: 3, Most: 100}, "limit 3 100"}, {wire.Msg{Kind: wire.Limit, Node: 65535, Most: math.MaxInt64}, "limit 65535 9223372036854775807"},
	} {
		if s := script.Line(w.m); s != w.s {
			t.Errorf("Line of %+v: %q; want %q", w.m, s, w.s)
		}
		if m, ok := script.Parse(w.s); !ok || m != w.m {
			t.Errorf("Parse of %q: %+v, %v", w.s, m, ok)
		}
	}
}

// P13.1: a message that isn't wire.Right has an empty text, and that is none's Line.
func TestNoLines(t *testing.T) {
	for i, m := range []wire.Msg{
		{Kind: -1}, {Kind: 7}, {Kind: math.MaxInt}, {Kind: math.MinInt}, {Id: 1}, {Qty: 1}, {Node: 1}, {Most: 1},
		{Order: rules.Order{Account: -1}}, {Order: rules.Order{Account: 65536}}, {Order: rules.Order{Symbol: 65536}}, {Order: rules.Order{Price: -1}},
		{Order: rules.Order{Qty: math.MinInt64}}, {Order: rules.Order{Number: -1}}, {Order: rules.Order{Second: -1}},
		{Kind: wire.Cancel, Id: -1}, {Kind: wire.Cancel, Id: 1 << 32}, {Kind: wire.Cancel, Qty: 1}, {Kind: wire.Fill, Id: 1 << 32, Qty: 1}, {Kind: wire.Fill, Qty: -1},
		{Kind: wire.Fill, Node: 1}, {Kind: wire.Ack, Id: math.MaxInt}, {Kind: wire.Ack, Most: 1}, {Kind: wire.Kill, Id: 1}, {Kind: wire.Kill, Order: rules.Order{Sell: true}},
		{Kind: wire.Rearm, Qty: 1}, {Kind: wire.Limit, Node: 65536}, {Kind: wire.Limit, Node: -1}, {Kind: wire.Limit, Most: -1}, {Kind: wire.Limit, Id: 1},
	} {
		if s := script.Line(m); s != "" {
			t.Errorf("%d: %q", i, s)
		}
	}
	for _, s := range []string{"", " ", "  ", "\n", "\x00", strings.Repeat(" ", 100000), strings.Repeat("9", 100000)} {
		if m, ok := script.Parse(s); ok || m != (wire.Msg{}) {
			t.Errorf("%q: %+v", s[:min(len(s), 9)], m)
		}
	}
}

// form is how Lines look; its groups are the numbers.
var form = regexp.MustCompile(`\A(?:order (\d+) (\d+) (?:buy|sell) (\d+) (\d+) (\d+) (\d+)|cancel (\d+)|fill (\d+) (\d+)|ack (\d+)|kill|rearm|limit (\d+) (\d+))\z`)

// widths is how many bits each of these numbers has at most.
var widths = []int{16, 16, 63, 63, 63, 63, 32, 32, 63, 32, 16, 63}

// isLine: is it some message's Line? By its looks, and numbers without an end.
func isLine(s string) bool {
	l := form.FindStringSubmatch(s)
	if l == nil {
		return false
	}
	for i, n := range l[1:] {
		if n == "" {
			continue
		}
		x, _ := new(big.Int).SetString(n, 10)
		if x.String() != n || x.BitLen() > widths[i] {
			return false
		}
	}
	return true
}

// parse holds Parse against what a Line looks like, and against Line.
func parse(t testing.TB, s string) bool {
	t.Helper()
	m, ok := script.Parse(s)
	if ok != isLine(s) {
		t.Fatalf("Parse of %q: %v", s, ok)
	}
	if !ok && m != (wire.Msg{}) {
		t.Fatalf("Parse of %q: %+v", s, m)
	}
	if ok && (!wire.Right(m) || script.Line(m) != s) {
		t.Fatalf("Parse of %q: %+v, whose Line is %q", s, m, script.Line(m))
	}
	return ok
}

// P13.1: texts that are nearly Lines.
func TestNearlyLines(t *testing.T) {
	for _, s := range []string{
		"order", "order ", "order 0", "order 0 0 buy 0 0 0", "order 0 0 buy 0 0 0 0 0", "order 0 0 buy 0 0 0 0 ", " order 0 0 buy 0 0 0 0", "order  0 0 buy 0 0 0 0",
		"order 0 0 BUY 0 0 0 0", "order 0 0 0 buy 0 0 0", "order 0 0 sel 0 0 0 0", "order 0 0 sells 0 0 0 0", "order 0 0  0 0 0 0", "order 65536 0 buy 0 0 0 0", "order 0 65536 buy 0 0 0 0",
		"order 0 0 buy 9223372036854775808 0 0 0", "order 0 0 buy 0 18446744073709551616 0 0", "order 0 0 buy 0 0 -1 0", "order 0 0 buy 0 0 0 +1", "order 0 0 buy 0 0 0 00",
		"order 00 0 buy 0 0 0 0", "order -0 0 buy 0 0 0 0", "order 0 0 buy 0x1 0 0 0", "order 0 0 buy 1_0 0 0 0", "order 0 0 buy 1e3 0 0 0", "order 0 0 buy 1. 0 0 0", "Order 0 0 buy 0 0 0 0",
		"order\t0 0 buy 0 0 0 0", "order 0 0 buy 0 0 0 0\n", "order 0 0 buy 0 0 0 \u0663", "order 0 0 buy \u00a00 0 0 0", "buy 0 0 order 0 0 0 0",
		"cancel", "cancel ", "cancel 4294967296", "cancel 18446744073709551617", "cancel -1", "cancel 01", "cancel 1 ", "cancel 1 1", "cancel x", "Cancel 1", "cancel  1",
		"fill", "fill 4", "fill 4 ", "fill 04 2", "fill 4 02", "fill 4 -2", "fill 4294967296 2", "fill 4 9223372036854775808", "fill 4 2 1", "fill 4  2",
		"ack", "ack ", "ack 4294967296", "ack -5", "ack 5 5", "acknowledge 5", "kill ", " kill", "kill 0", "Kill", "KILL", "kil", "kills", "rearm ", "rearm 0", "Rearm", "rearms",
		"limit", "limit 3", "limit 3 ", "limit 65536 1", "limit 3 9223372036854775808", "limit -1 1", "limit 1 -1", "limit 03 1", "limit 3 1 0", "sweep 0 0", "none", "0", "4", "begin",
	} {
		if parse(t, s) {
			t.Errorf("%q is a Line", s)
		}
	}
}

// anyMsg is any message, most of them wire.Right; their numbers are often at their ends.
func anyMsg(r *rand.Rand) wire.Msg {
	n := func(bits int) int64 {
		most := int64(math.MaxInt64) >> (63 - bits)
		return []int64{0, 1, 9, 10, most, most - 1, r.Int63() & most, r.Int63() & most >> r.Intn(bits)}[r.Intn(8)]
	}
	switch r.Intn(9) {
	case 0:
		return wire.Msg{Kind: wire.Cancel, Id: int(n(32))}
	case 1:
		return wire.Msg{Kind: wire.Fill, Id: int(n(32)), Qty: n(63)}
	case 2:
		return wire.Msg{Kind: wire.Ack, Id: int(n(32))}
	case 3:
		return wire.Msg{Kind: wire.Limit, Node: int(n(16)), Most: n(63)}
	case 4:
		return wire.Msg{Kind: r.Intn(9) - 1, Id: r.Intn(3) - 1, Qty: int64(r.Intn(2))}
	default:
		return wire.Msg{Order: rules.Order{Account: int(n(16)), Symbol: int(n(16)), Sell: r.Intn(2) == 0, Price: n(63), Qty: n(63), Number: n(63), Second: n(63)}}
	}
}

// P13.2: Lines and messages undo each other.
func TestLinesUndo(t *testing.T) {
	r := rand.New(rand.NewSource(6))
	met := map[bool]int{}
	for range 20000 {
		m := anyMsg(r)
		s := script.Line(m)
		if met[wire.Right(m)]++; !wire.Right(m) {
			if s != "" {
				t.Fatalf("%+v: %q", m, s)
			}
			continue
		}
		if got, ok := script.Parse(s); !ok || got != m || !isLine(s) {
			t.Fatalf("%+v: %q: %+v, %v", m, s, got, ok)
		}
	}
	if met[true] < 5000 || met[false] < 500 {
		t.Error("hardly met:", met)
	}
}

// spoil is a text that is a little otherwise.
func spoil(r *rand.Rand, s string) string {
	b := []byte(s)
	at := r.Intn(len(b) + 1)
	c := " 0123456789-+_.,xbuyselorderkil\n\x00"[r.Intn(33)]
	switch kind := r.Intn(5); {
	case kind == 0:
		return string(slices.Insert(b, at, c))
	case kind == 1 && at < len(b):
		return string(slices.Delete(b, at, at+1))
	case kind == 2 && at < len(b):
		b[at] = c
	case kind == 3:
		return string(b[:at])
	case kind == 4:
		l := strings.Split(s, " ")
		i, j := r.Intn(len(l)), r.Intn(len(l))
		l[i], l[j] = l[j], l[i]
		return strings.Join(l, " ")
	}
	return string(b)
}

// P13.1, P13.2: Lines a little otherwise: such as are another message's Line, and such as are none's.
func TestSpoiltLines(t *testing.T) {
	r := rand.New(rand.NewSource(7))
	met := map[bool]int{}
	for range 20000 {
		if s := script.Line(anyMsg(r)); s != "" {
			met[parse(t, spoil(r, s))]++
		}
	}
	if met[true] < 2000 || met[false] < 2000 {
		t.Error("hardly met:", met)
	}
}

// FuzzParse goes on from the seeds by: go test -fuzz FuzzParse ./script
func FuzzParse(f *testing.F) {
	for _, s := range []string{"order 0 1 sell 12 3 7 0", "cancel 4294967295", "fill 4 2", "ack 0", "kill", "rearm", "limit 3 100", ""} {
		f.Add(s)
	}
	f.Fuzz(func(t *testing.T, s string) { parse(t, s) })
}
