package wire_test

import (
	"bytes"
	"encoding/binary"
	"encoding/hex"
	"math"
	"math/rand"
	"slices"
	"testing"

	"stopgate/api"
	"stopgate/rules"
	"stopgate/wire"
)

// field is one of a message: which kinds have it, how many bytes it takes there, what it may be at most.
type field struct {
	name  string
	kinds []int
	size  int
	most  int64
	set   func(m *wire.Msg, n int64)
	get   func(m wire.Msg) int64
}

const kinds = 7

// fields: all of them but Kind; those of one kind in the order in which its bytes have them.
func fields() []field {
	order := []int{wire.Order}
	return []field{
		{"Account", order, 2, 65535, func(m *wire.Msg, n int64) { m.Order.Account = int(n) }, func(m wire.Msg) int64 { return int64(m.Order.Account) }},
		{"Symbol", order, 2, 65535, func(m *wire.Msg, n int64) { m.Order.Symbol = int(n) }, func(m wire.Msg) int64 { return int64(m.Order.Symbol) }},
		{"Sell", order, 1, 1, func(m *wire.Msg, n int64) { m.Order.Sell = n == 1 }, sell},
		{"Price", order, 8, math.MaxInt64, func(m *wire.Msg, n int64) { m.Order.Price = n }, func(m wire.Msg) int64 { return m.Order.Price }},
		{"Order.Qty", order, 8, math.MaxInt64, func(m *wire.Msg, n int64) { m.Order.Qty = n }, func(m wire.Msg) int64 { return m.Order.Qty }},
		{"Number", order, 8, math.MaxInt64, func(m *wire.Msg, n int64) { m.Order.Number = n }, func(m wire.Msg) int64 { return m.Order.Number }},
		{"Second", order, 8, math.MaxInt64, func(m *wire.Msg, n int64) { m.Order.Second = n }, func(m wire.Msg) int64 { return m.Order.Second }},
		{"Id", []int{wire.Cancel, wire.Fill, wire.Ack}, 4, 1<<32 - 1, func(m *wire.Msg, n int64) { m.Id = int(n) }, func(m wire.Msg) int64 { return int64(m.Id) }},
		{"Qty", []int{wire.Fill}, 8, math.MaxInt64, func(m *wire.Msg, n int64) { m.Qty = n }, func(m wire.Msg) int64 { return m.Qty }},
		{"Node", []int{wire.Limit}, 2, 65535, func(m *wire.Msg, n int64) { m.Node = int(n) }, func(m wire.Msg) int64 { return int64(m.Node) }},
		{"Most", []int{wire.Limit}, 8, math.MaxInt64, func(m *wire.Msg, n int64) { m.Most = n }, func(m wire.Msg) int64 { return m.Most }},
	}
}

func sell(m wire.Msg) int64 {
	if m.Order.Sell {
		return 1
	}
	return 0
}

// right works the chapter's words out field by field.
func right(m wire.Msg) bool {
	for _, f := range fields() {
		n := f.get(m)
		if n < 0 || n > f.most || n != 0 && !slices.Contains(f.kinds, m.Kind) {
			return false
		}
	}
	return m.Kind >= 0 && m.Kind < kinds
}

// encode: the bytes of a message that is right.
func encode(m wire.Msg) []byte {
	b := []byte{byte(m.Kind)}
	for _, f := range fields() {
		if slices.Contains(f.kinds, m.Kind) {
			b = append(b, binary.BigEndian.AppendUint64(nil, uint64(f.get(m)))[8-f.size:]...)
		}
	}
	return b
}

// decode: the message with which b begins, and how many bytes it has (none: there is none).
func decode(b []byte) (wire.Msg, int) {
	if len(b) == 0 || b[0] >= kinds {
		return wire.Msg{}, 0
	}
	m, at := wire.Msg{Kind: int(b[0])}, 1
	for _, f := range fields() {
		if !slices.Contains(f.kinds, m.Kind) {
			continue
		}
		if len(b) < at+f.size {
			return wire.Msg{}, 0
		}
		n := binary.BigEndian.Uint64(append(make([]byte, 8-f.size), b[at:at+f.size]...))
		if n > uint64(f.most) {
			return wire.Msg{}, 0
		}
		f.set(&m, int64(n))
		at += f.size
	}
	return m, at
}

// all: the messages of b, and whether they go up to its end.
func all(b []byte) ([]wire.Msg, api.Code) {
	var l []wire.Msg
	for len(b) > 0 {
		m, size := decode(b)
		if size == 0 {
			return l, api.Malformed
		}
		l, b = append(l, m), b[size:]
	}
	return l, api.OK
}

// holdMsg holds Right and Encode of a message; if it is right, it must come back of its bytes, and nothing be left.
func holdMsg(t *testing.T, m wire.Msg) {
	t.Helper()
	want := right(m)
	if wire.Right(m) != want {
		t.Errorf("Right of %v isn't %v", m, want)
	}
	b := wire.Encode(m)
	if !want {
		if len(b) != 0 {
			t.Errorf("Encode of %v: %x", m, b)
		}
		return
	}
	if !bytes.Equal(b, encode(m)) {
		t.Errorf("Encode of %v: %x; want %x", m, b, encode(m))
	}
	if n, left, c := wire.Decode(b); n != m || len(left) != 0 || c != api.OK {
		t.Errorf("Decode of %x: %v, %x, %v; want %v", b, n, left, c.Word(), m)
	}
	if l, c := wire.All(b); !slices.Equal(l, []wire.Msg{m}) || c != api.OK {
		t.Errorf("All of %x: %v, %v", b, l, c.Word())
	}
}

// holdBytes holds Decode and All of bytes; what is decoded must be encoded by just these.
func holdBytes(t *testing.T, b []byte) {
	t.Helper()
	was := bytes.Clone(b)
	want, size := decode(b)
	m, left, c := wire.Decode(b)
	switch {
	case size == 0:
		if m != (wire.Msg{}) || len(left) != 0 || c != api.Malformed {
			t.Errorf("Decode of %x: %v, %x, %v", b, m, left, c.Word())
		}
	case m != want || !bytes.Equal(left, b[size:]) || c != api.OK:
		t.Errorf("Decode of %x: %v, %x, %v; want %v, %x", b, m, left, c.Word(), want, b[size:])
	case !wire.Right(m) || !bytes.Equal(wire.Encode(m), b[:size]):
		t.Errorf("%x is decoded as %v, and that is encoded as %x", b[:size], m, wire.Encode(m))
	}
	wantAll, wantCode := all(b)
	if l, c := wire.All(b); !slices.Equal(l, wantAll) || c != wantCode {
		t.Errorf("All of %x: %v, %v; want %v, %v", b, l, c.Word(), wantAll, wantCode.Word())
	}
	if !bytes.Equal(b, was) {
		t.Errorf("%x became %x", was, b)
	}
}

func numbers() []int64 {
	l := []int64{0, math.MaxInt64, math.MaxInt64 - 1, math.MinInt64, math.MinInt64 + 1, -2, -1, 258, 0x0102030405060708, 0x7FFEFDFCFBFAF9F8}
	for _, i := range []int{0, 1, 7, 8, 15, 16, 31, 32, 40, 62} {
		l = append(l, 1<<i-1, 1<<i, 1<<i+1)
	}
	return l
}

// full is a message of that kind with a number in each field that it has, all of them other ones.
func full(kind int) wire.Msg {
	m := wire.Msg{Kind: kind}
	for i, f := range fields() {
		if slices.Contains(f.kinds, kind) {
			f.set(&m, min(f.most, int64(i)*0x010203040506+7))
		}
	}
	return m
}

// written: a message of each kind, and its bytes.
func written() map[string]wire.Msg {
	return map[string]wire.Msg{
		"00" + "0102" + "0003" + "01" + "0000000000000001" + "0000000000000002" + "0000000000000003" + "0000000000000004": {
			Kind: 0, Order: rules.Order{Account: 258, Symbol: 3, Sell: true, Price: 1, Qty: 2, Number: 3, Second: 4}},
		"00" + "ffff" + "fffe" + "00" + "7fffffffffffffff" + "0102030405060708" + "7ffffffffffffffe" + "0000010000000000": {
			Kind: 0, Order: rules.Order{Account: 65535, Symbol: 65534, Price: math.MaxInt64, Qty: 0x0102030405060708, Number: math.MaxInt64 - 1, Second: 1 << 40}},
		"00" + "0000" + "0000" + "00" + "0000000000000000" + "0000000000000000" + "0000000000000000" + "0000000000000000": {Kind: 0},
		"01" + "00000005":                      {Kind: 1, Id: 5},
		"01" + "ffffffff":                      {Kind: 1, Id: 1<<32 - 1},
		"02" + "01020304" + "0a0b0c0d0e0f1011": {Kind: 2, Id: 0x01020304, Qty: 0x0a0b0c0d0e0f1011},
		"02" + "00000000" + "0000000000000000": {Kind: 2},
		"03" + "00000100":                      {Kind: 3, Id: 256},
		"03" + "80000000":                      {Kind: 3, Id: 1 << 31},
		"04":                                   {Kind: 4},
		"05":                                   {Kind: 5},
		"06" + "0201" + "4000000000000000":     {Kind: 6, Node: 513, Most: 1 << 62},
		"06" + "ffff" + "7fffffffffffffff":     {Kind: 6, Node: 65535, Most: math.MaxInt64},
	}
}

// P6.1: the names of the kinds.
func TestKinds(t *testing.T) {
	if l := [kinds]int{wire.Order, wire.Cancel, wire.Fill, wire.Ack, wire.Kill, wire.Rearm, wire.Limit}; l != [kinds]int{0, 1, 2, 3, 4, 5, 6} {
		t.Error(l)
	}
}

// P6.1 and P6.2, by bytes written out, there and back.
func TestBytesExamples(t *testing.T) {
	for s, m := range written() {
		b, err := hex.DecodeString(s)
		if err != nil {
			t.Fatal(err)
		}
		if !wire.Right(m) {
			t.Error("isn't Right:", m)
		}
		if got := wire.Encode(m); !bytes.Equal(got, b) {
			t.Errorf("Encode of %v: %x; want %s", m, got, s)
		}
		if n, left, c := wire.Decode(b); n != m || len(left) != 0 || c != api.OK {
			t.Errorf("Decode of %s: %v, %x, %v", s, n, left, c.Word())
		}
		if !bytes.Equal(encode(m), b) {
			t.Errorf("the test itself encodes %v as %x", m, encode(m))
		}
		if n, size := decode(b); n != m || size != len(b) {
			t.Errorf("the test itself decodes %s as %v", s, n)
		}
	}
}

// P6.1 and P1: each kind, and numbers that are none, with each number in each field, its own and other kinds'.
func TestRightOfEachField(t *testing.T) {
	for _, kind := range []int{0, 1, 2, 3, 4, 5, 6, 7, 8, 255, 256, 257, 1 << 32, -1, -2, -256, math.MinInt, math.MaxInt} {
		for _, m := range []wire.Msg{{Kind: kind}, full(kind)} {
			holdMsg(t, m)
			for _, f := range fields() {
				for _, n := range numbers() {
					x := m
					f.set(&x, n)
					holdMsg(t, x)
				}
			}
		}
	}
}

// P6.1: two fields at once, so that a wrong one isn't forgotten over a right one, in each order.
func TestRightOfTwoFields(t *testing.T) {
	few := []int64{-1, 0, 1, 65535, 65536, 1<<32 - 1, 1 << 32, math.MaxInt64, math.MinInt64}
	for kind := range kinds {
		for _, f := range fields() {
			for _, g := range fields() {
				for _, a := range few {
					for _, b := range few {
						m := full(kind)
						f.set(&m, a)
						g.set(&m, b)
						holdMsg(t, m)
					}
				}
			}
		}
	}
}

// P6.1: a message that ends too early is none, wherever it ends; with more behind it that is what is left.
func TestEndsAndWhatIsBehind(t *testing.T) {
	tails := [][]byte{nil, {0}, {4}, {7}, {255}, {0, 1, 2, 3, 4, 5, 6, 7, 8, 9}, wire.Encode(full(0)), bytes.Repeat([]byte{255}, 100)}
	for kind := range kinds {
		for _, m := range []wire.Msg{{Kind: kind}, full(kind)} {
			b := encode(m)
			for end := range b {
				if n, left, c := wire.Decode(b[:end]); n != (wire.Msg{}) || len(left) != 0 || c != api.Malformed {
					t.Errorf("of %x alone: %v, %x, %v", b[:end], n, left, c.Word())
				}
				holdBytes(t, b[:end])
			}
			for _, tail := range tails {
				long := slices.Concat(b, tail)
				if n, left, c := wire.Decode(long); n != m || !bytes.Equal(left, tail) || c != api.OK {
					t.Errorf("of %x: %v, %x, %v", long, n, left, c.Word())
				}
				holdBytes(t, long)
			}
		}
	}
}

// P6.1 and P6.2: each byte of each kind's bytes replaced by each other one: above 6 there is no kind, above 1 no side,
// with its highest bit no number of 8 bytes.
func TestEachByte(t *testing.T) {
	for kind := range kinds {
		for _, m := range []wire.Msg{{Kind: kind}, full(kind)} {
			b := append(encode(m), bytes.Repeat([]byte{0}, 40)...)
			for at := range b {
				for x := range 256 {
					changed := bytes.Clone(b)
					changed[at] = byte(x)
					holdBytes(t, changed)
				}
			}
		}
	}
	for x := range 256 {
		b := append([]byte{byte(x)}, make([]byte, 60)...)
		if _, _, c := wire.Decode(b); (c == api.OK) != (x <= 6) || c != api.OK && c != api.Malformed {
			t.Errorf("of the first byte %d: %v", x, c.Word())
		}
		b = append(encode(wire.Msg{})[:5], b...)
		if _, _, c := wire.Decode(b); (c == api.OK) != (x <= 1) {
			t.Errorf("of the side %d: %v", x, c.Word())
		}
	}
	for s, at := range map[int][]int{wire.Order: {6, 14, 22, 30}, wire.Fill: {5}, wire.Limit: {3}} {
		for _, i := range at {
			b := encode(wire.Msg{Kind: s})
			b[i] = 0x80
			if m, left, c := wire.Decode(b); m != (wire.Msg{}) || len(left) != 0 || c != api.Malformed {
				t.Errorf("of %x: %v, %x, %v", b, m, left, c.Word())
			}
		}
	}
}

// P6.1 and P6.2: all bytes up to two of them, and many of other lengths.
func TestAnyBytes(t *testing.T) {
	holdBytes(t, nil)
	holdBytes(t, []byte{})
	for x := range 256 {
		holdBytes(t, []byte{byte(x)})
		for y := range 256 {
			holdBytes(t, []byte{byte(x), byte(y)})
		}
	}
	draw := rand.New(rand.NewSource(6))
	for range 20000 {
		b := make([]byte, draw.Intn(200))
		for i := range b {
			b[i] = byte(draw.Intn(1 << draw.Intn(9)))
		}
		holdBytes(t, b)
	}
}

// some is a message that is right, with numbers of all lengths.
func some(draw *rand.Rand) wire.Msg {
	m := wire.Msg{Kind: draw.Intn(kinds)}
	for _, f := range fields() {
		if slices.Contains(f.kinds, m.Kind) {
			f.set(&m, draw.Int63()>>draw.Intn(63)&f.most)
		}
	}
	return m
}

// P6.1 and P6.2: many messages one behind the other: all are told, in their order; cut off, those ahead.
func TestAllOfMany(t *testing.T) {
	draw := rand.New(rand.NewSource(7))
	for range 300 {
		var b []byte
		var l []wire.Msg
		ends := map[int]bool{0: true}
		for range draw.Intn(12) {
			m := some(draw)
			holdMsg(t, m)
			l, b = append(l, m), append(b, wire.Encode(m)...)
			ends[len(b)] = true
		}
		if got, c := wire.All(b); !slices.Equal(got, l) || c != api.OK {
			t.Fatalf("All of %x: %v, %v; want %v", b, got, c.Word(), l)
		}
		for end := range len(b) + 1 {
			holdBytes(t, b[:end])
			if _, c := wire.All(b[:end]); (c == api.OK) != ends[end] {
				t.Fatalf("All of %x: %v", b[:end], c.Word())
			}
		}
		if got, c := wire.All(append(b, 7, 4, 4)); !slices.Equal(got, l) || c != api.Malformed {
			t.Fatalf("All of %x: %v, %v; want %v", b, got, c.Word(), l)
		}
	}
}

// P6.1: what All tells of no bytes, of a first one that is none, and of one that is none between others.
func TestAllExamples(t *testing.T) {
	kill, rearm, cancel := wire.Msg{Kind: wire.Kill}, wire.Msg{Kind: wire.Rearm}, wire.Msg{Kind: wire.Cancel, Id: 5}
	for i, x := range []struct {
		b    []byte
		want []wire.Msg
		code api.Code
	}{
		{nil, nil, api.OK},
		{[]byte{}, nil, api.OK},
		{[]byte{4}, []wire.Msg{kill}, api.OK},
		{[]byte{4, 5, 4}, []wire.Msg{kill, rearm, kill}, api.OK},
		{[]byte{1, 0, 0, 0, 5}, []wire.Msg{cancel}, api.OK},
		{[]byte{1, 0, 0, 0, 5, 4}, []wire.Msg{cancel, kill}, api.OK},
		{[]byte{1, 0, 0, 0}, nil, api.Malformed},
		{[]byte{7}, nil, api.Malformed},
		{[]byte{7, 4}, nil, api.Malformed},
		{[]byte{4, 7, 5}, []wire.Msg{kill}, api.Malformed},
		{[]byte{4, 5, 1, 0, 0}, []wire.Msg{kill, rearm}, api.Malformed},
		{[]byte{4, 6, 0, 0, 128, 0, 0, 0, 0, 0, 0, 0, 5}, []wire.Msg{kill}, api.Malformed},
	} {
		if l, c := wire.All(x.b); !slices.Equal(l, x.want) || c != x.code {
			t.Errorf("%d: All of %x: %v, %v; want %v, %v", i, x.b, l, c.Word(), x.want, x.code.Word())
		}
	}
}

// P1: a great many messages are told, and what is left isn't copied at each of them.
func TestAllOfVeryMany(t *testing.T) {
	const many = 1 << 18
	b := bytes.Repeat([]byte{wire.Kill}, many)
	l, c := wire.All(b)
	if len(l) != many || c != api.OK || l[many-1] != (wire.Msg{Kind: wire.Kill}) {
		t.Error(len(l), c.Word())
	}
	if n := testing.AllocsPerRun(1, func() { wire.All(b) }); n > many/100 {
		t.Error("All asked for memory", n, "times")
	}
	b[many-1] = 9
	if l, c := wire.All(b); len(l) != many-1 || c != api.Malformed {
		t.Error(len(l), c.Word())
	}
}

// P6.1: messages are compared by ==, whole.
func TestMsgsCompare(t *testing.T) {
	for _, f := range fields() {
		m, n := full(6), full(6)
		if m != n {
			t.Error("a message isn't the same as itself")
		}
		f.set(&m, 1)
		f.set(&n, 0)
		if m == n {
			t.Error(f.name, "is the same")
		}
	}
}

// P6.3: what is handed in isn't changed, its spare room neither.
func TestHandedInStays(t *testing.T) {
	room := slices.Concat(encode(full(0)), encode(full(6)), []byte{4, 7, 1, 2, 3, 4, 5, 6})
	was := bytes.Clone(room)
	for end := range room {
		in := room[:end]
		_, left, _ := wire.Decode(in)
		left = append(left, 99, 99, 99)
		for i := range left {
			left[i] = 99
		}
		wire.All(in)
		if !bytes.Equal(room, was) {
			t.Fatalf("%x became %x", was, room)
		}
	}
}

// P6.3: answers share nothing with what was handed in, nor with one another.
func TestAnswersAreNew(t *testing.T) {
	in := slices.Concat([]byte{1, 0, 0, 0, 5}, encode(full(2)), encode(full(0)), []byte{4})
	was := bytes.Clone(in)
	m, left, _ := wire.Decode(in)
	_, again, _ := wire.Decode(in)
	l, _ := wire.All(in)
	more, _ := wire.All(in)
	keptLeft, keptList := bytes.Clone(left), slices.Clone(l)
	for i := range again[:cap(again)] {
		again[:cap(again)][i] = 0xEE
	}
	for i := range more[:cap(more)] {
		more[:cap(more)][i] = wire.Msg{Kind: -1}
	}
	if !bytes.Equal(in, was) {
		t.Fatalf("an answer shares with what was handed in: %x", in)
	}
	for i := range in {
		in[i] = 0xDD
	}
	if m != (wire.Msg{Kind: wire.Cancel, Id: 5}) || !bytes.Equal(left, keptLeft) || !slices.Equal(l, keptList) {
		t.Errorf("answers are now %v, %x, %v", m, left, l)
	}
	if len(keptLeft) != len(was)-5 || len(keptList) != 4 {
		t.Errorf("%x, %v", keptLeft, keptList)
	}
}

// P6.3: a message's bytes are others each time.
func TestEncodedIsNew(t *testing.T) {
	for kind := range kinds {
		m := full(kind)
		first, second := wire.Encode(m), wire.Encode(m)
		kept := bytes.Clone(first)
		for i := range second[:cap(second)] {
			second[:cap(second)][i] = 0xEE
		}
		if third := wire.Encode(m); !bytes.Equal(first, kept) || !bytes.Equal(third, kept) {
			t.Errorf("%x, then %x; want %x", first, third, kept)
		}
	}
}

// FuzzBytes goes on from the seeds by: go test -fuzz FuzzBytes ./wire
func FuzzBytes(f *testing.F) {
	for kind := range kinds {
		f.Add(encode(full(kind)))
	}
	f.Add([]byte{1, 0, 0, 0, 5, 4, 7})
	f.Fuzz(func(t *testing.T, b []byte) { holdBytes(t, b) })
}

// FuzzMsg goes on from the seeds by: go test -fuzz FuzzMsg ./wire
func FuzzMsg(f *testing.F) {
	f.Add(0, 258, 3, true, int64(1), int64(2), int64(3), int64(4), 0, int64(0), 0, int64(0))
	f.Add(2, 0, 0, false, int64(0), int64(0), int64(0), int64(0), 1<<32-1, int64(math.MaxInt64), 0, int64(0))
	f.Add(6, 0, 0, false, int64(0), int64(0), int64(0), int64(0), 0, int64(0), 65535, int64(1<<62))
	f.Add(7, -1, 65536, true, int64(-1), int64(math.MinInt64), int64(-1), int64(-1), 1<<32, int64(-1), -1, int64(-1))
	f.Fuzz(func(t *testing.T, kind, account, symbol int, sell bool, price, qty, number, second int64, id int, left int64, node int, most int64) {
		o := rules.Order{Account: account, Symbol: symbol, Sell: sell, Price: price, Qty: qty, Number: number, Second: second}
		holdMsg(t, wire.Msg{Kind: kind, Order: o, Id: id, Qty: left, Node: node, Most: most})
		holdMsg(t, wire.Msg{Kind: kind, Order: o})
		holdMsg(t, wire.Msg{Kind: kind, Id: id})
		holdMsg(t, wire.Msg{Kind: kind, Id: id, Qty: left})
		holdMsg(t, wire.Msg{Kind: kind, Node: node, Most: most})
	})
}
