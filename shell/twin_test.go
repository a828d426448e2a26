package shell_test

import (
	"fmt"
	"math/rand"
	"regexp"
	"strconv"
	"strings"
	"testing"

	"stopgate/api"
	"stopgate/book"
	"stopgate/floor"
	"stopgate/gate"
	"stopgate/model"
	"stopgate/rules"
	"stopgate/script"
	"stopgate/shell"
	"stopgate/tree"
	"stopgate/wire"
)

// twin does lines by the chapter's words, on floors of its own.
type twin struct {
	config rules.Config
	lists  [3][]wire.Msg
	floor  *floor.Floor
}

// noBytes is the Config that chapter 13 tells of no bytes.
func noBytes() rules.Config {
	return rules.Config{
		Shards: 1, Window: 0, Rate: 1, Table: 1,
		Nodes:    []tree.Node{{Parent: -1, Cap: 100}, {Parent: 0, Cap: 100}, {Parent: 1, Cap: 50}, {Parent: 1, Cap: 50}},
		Accounts: []int{2, 3, 2},
		Symbols:  []rules.Symbol{{Price: 100, Qty: 50, Worth: 3000, Band: 0.1}, {Price: 10, Qty: 1000, Worth: 10000, Band: 0.5}},
	}
}

func newTwin() *twin { return &twin{config: noBytes()} }

// number is how a number of a line looks.
const number = `(0|[1-9][0-9]{0,5}|1000000)`

// form is how a line looks, whether it needs a floor, and what is done by its numbers; of a do by its message, too.
type form struct {
	looks *regexp.Regexp
	needs bool
	reply func(w *twin, n []int, message string) string
}

func (w *twin) g() *gate.Gate { return w.floor.Gate() }

func looks(s string) *regexp.Regexp {
	return regexp.MustCompile(`(?s)\A` + strings.ReplaceAll(s, "N", number) + `\z`)
}

func set(place func(c *rules.Config) *int) func(w *twin, n []int, message string) string {
	return func(w *twin, n []int, _ string) string {
		*place(&w.config) = n[0]
		return "ok"
	}
}

var forms = []form{
	{looks(`shards N`), false, set(func(c *rules.Config) *int { return &c.Shards })},
	{looks(`window N`), false, set(func(c *rules.Config) *int { return &c.Window })},
	{looks(`rate N`), false, set(func(c *rules.Config) *int { return &c.Rate })},
	{looks(`table N`), false, set(func(c *rules.Config) *int { return &c.Table })},
	{looks(`cap N N`), false, (*twin).cap},
	{looks(`do N (.*)`), false, (*twin).do},
	{looks(`begin`), false, (*twin).begin},
	{looks(`pick N`), true, func(w *twin, n []int, _ string) string {
		return map[bool]string{true: "yes", false: "no"}[w.floor.Pick(n[0])]
	}},
	{looks(`run N`), true, func(w *twin, n []int, _ string) string { return fmt.Sprint(w.floor.Rest(n[0])) }},
	{looks(`left`), true, func(w *twin, _ []int, _ string) string {
		return fmt.Sprintf("%d %d %d", w.floor.Left(0), w.floor.Left(1), w.floor.Left(2))
	}},
	{looks(`log`), true, (*twin).log},
	{looks(`answers N`), true, (*twin).answers},
	{looks(`out`), true, func(w *twin, _ []int, _ string) string {
		out, _ := w.g().Out()
		return outText(out)
	}},
	{looks(`used`), true, func(w *twin, _ []int, _ string) string {
		return fmt.Sprintf("%d %d %d %d", w.g().Used(0), w.g().Used(1), w.g().Used(2), w.g().Used(3))
	}},
	{looks(`open N`), true, func(w *twin, n []int, _ string) string { return openText(w.g().Book(n[0])) }},
	// P15.3: whatever lines there were.
	{looks(`check`), true, func(*twin, []int, string) string { return "ok" }},
}

func (w *twin) cap(n []int, _ string) string {
	if n[0] > 3 {
		return "node"
	}
	nodes := append([]tree.Node(nil), w.config.Nodes...)
	nodes[n[0]].Cap = int64(n[1])
	w.config.Nodes = nodes
	return "ok"
}

func (w *twin) do(n []int, message string) string {
	m, ok := script.Parse(message)
	switch {
	case n[0] > 2:
		return "worker"
	case !ok:
		return "message"
	}
	w.lists[n[0]] = append(w.lists[n[0]], m)
	return "ok"
}

func (w *twin) begin(_ []int, _ string) string {
	f, code := floor.New(w.config, w.lists[:])
	if code == api.OK {
		w.floor = f
	}
	return code.Word()
}

func (w *twin) log(_ []int, _ string) string {
	zero := 0
	for _, e := range w.g().Log() {
		if e.End == 0 {
			zero++
		}
	}
	return fmt.Sprintf("%d %d", len(w.g().Log()), zero)
}

func (w *twin) answers(n []int, _ string) string {
	var l []model.Answer
	for _, e := range w.g().Log() {
		if e.Who == n[0] && !e.Op.Sweep && e.End != 0 {
			l = append(l, e.Answer)
		}
	}
	return answersText(l)
}

// semicolons is things with semicolons between.
func semicolons[T any](l []T, tell func(T) string) string {
	s := ""
	for _, x := range l {
		s += ";" + tell(x)
	}
	if s == "" {
		return "none"
	}
	return s[1:]
}

func answersText(l []model.Answer) string {
	return semicolons(l, func(a model.Answer) string { return fmt.Sprintf("%s %d", a.Code.Word(), a.Id) })
}

func outText(l []model.Out) string {
	return semicolons(l, func(o model.Out) string { return fmt.Sprintf("%s %d", [2]string{"new", "cancel"}[o.Kind], o.Id) })
}

func openText(b book.Book) string {
	return semicolons(b.Open, func(e book.Entry) string {
		return fmt.Sprintf("%d %d %s", e.Id, e.Left, [3]string{1: "live", 2: "pending"}[e.State])
	})
}

func (w *twin) reply(line string) string {
	for _, f := range forms {
		words := f.looks.FindStringSubmatch(line)
		if words == nil {
			continue
		}
		if f.needs && w.floor == nil {
			return "no floor"
		}
		var n []int
		for _, word := range words[1:] {
			if x, err := strconv.Atoi(word); err == nil {
				n = append(n, x)
			}
		}
		return f.reply(w, n, words[len(words)-1])
	}
	return "what"
}

// asked is all lines that tell something and change nothing.
var asked = []string{"left", "log", "answers 0", "answers 1", "answers 2", "answers 3", "out", "used", "open 0", "open 1", "open 2", "open 3", "open 4", "check"}

// anyOf is one of these.
func anyOf[T any](r *rand.Rand, l ...T) T { return l[r.Intn(len(l))] }

// anyMessage is any message in words, most of them such as have something to do.
func anyMessage(r *rand.Rand) string {
	id := r.Intn(9)
	switch r.Intn(20) {
	case 0:
		return "kill"
	case 1, 2:
		return "rearm"
	case 3, 4:
		return fmt.Sprint("cancel ", id)
	case 5, 6, 7:
		return fmt.Sprint("fill ", id, " ", r.Intn(5))
	case 8, 9, 10:
		return fmt.Sprint("ack ", id)
	case 11:
		return fmt.Sprint("limit ", r.Intn(5), " ", anyOf(r, 0, 40, 100, 200, 1<<62, 1<<62+1))
	case 12:
		return fmt.Sprint("order ", r.Intn(4), " 0 ", anyOf(r, "buy", "sell"), " ", 88+r.Intn(25), " ", r.Intn(3), " ", r.Intn(20), " ", r.Intn(3))
	default:
		return fmt.Sprint("order ", r.Intn(3), " ", anyOf(r, 1, 1, 1, 2), " ", anyOf(r, "buy", "sell"), " ", 5+r.Intn(12), " ", 1+r.Intn(4), " ", r.Intn(20), " ", r.Intn(3))
	}
}

// anyLine is any line, most of them such as are some.
func anyLine(r *rand.Rand) string {
	switch r.Intn(24) {
	case 0:
		return fmt.Sprint("shards ", anyOf(r, 0, 1, 2, 2, 3, 3, 4, 5))
	case 1:
		return fmt.Sprint("window ", anyOf(r, 0, 1, 2, 16, 17))
	case 2:
		return fmt.Sprint("rate ", anyOf(r, 0, 1, 2, 9, 9, 1000, 1001))
	case 3:
		return fmt.Sprint("table ", anyOf(r, 0, 1, 3, 9, 9, 64, 65))
	case 4:
		return fmt.Sprint("cap ", r.Intn(5), " ", anyOf(r, 0, 60, 100, 300, 1000000, 1000000))
	case 5, 6, 7, 8, 9, 10, 11:
		return fmt.Sprint("do ", r.Intn(16)/5, " ", anyMessage(r))
	case 12:
		return "begin"
	case 13:
		return fmt.Sprint("run ", anyOf(r, 0, 1, 5, 20, 60, 1000000))
	case 14, 15, 16, 17, 18:
		return fmt.Sprint("pick ", r.Intn(4))
	case 19:
		return spoilt(r, anyLine(r))
	default:
		return anyOf(r, asked...)
	}
}

// spoilt is a line that is a little otherwise.
func spoilt(r *rand.Rand, s string) string {
	at := r.Intn(len(s) + 1)
	switch r.Intn(5) {
	case 0:
		return s[:at] + anyOf(r, " ", "0", "7", "-", "+", "x", "\n", "\t", ";", "k", "\xff") + s[at:]
	case 1:
		return s[:at] + s[min(at+1, len(s)):]
	case 2:
		return s[:at]
	case 3:
		return s[at:]
	default:
		l := strings.Split(s, " ")
		i, j := r.Intn(len(l)), r.Intn(len(l))
		l[i], l[j] = l[j], l[i]
		return strings.Join(l, " ")
	}
}

// hold holds a Shell's replies against a twin's, line by line, and all that both tell at the end.
func hold(t testing.TB, lines []string) []string {
	t.Helper()
	s, w := shell.New(), newTwin()
	var replies []string
	for i, line := range append(lines[:len(lines):len(lines)], asked...) {
		got, want := s.Do(line), w.reply(line)
		if got != want {
			t.Fatalf("line %d of %q: %q: %q; want %q", i, lines, line, got, want)
		}
		replies = append(replies, got)
	}
	return replies[:len(lines)]
}
