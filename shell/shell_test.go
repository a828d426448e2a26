package shell_test

import (
	"fmt"
	"math/rand"
	"slices"
	"strconv"
	"strings"
	"testing"

	"stopgate/model"
	"stopgate/rules"
	"stopgate/script"
	"stopgate/shell"
	"stopgate/wire"
)

// said is a line and its reply; of the reply "a number" any but -1.
type said struct{ line, reply string }

func talk(t *testing.T, s *shell.Shell, l []said) {
	t.Helper()
	for i, x := range l {
		got := s.Do(x.line)
		if x.reply == "a number" {
			if n, err := strconv.Atoi(got); err == nil && n >= 0 {
				continue
			}
		}
		if got != x.reply {
			t.Errorf("%d: %q: %q; want %q", i, x.line, got, x.reply)
		}
	}
}

// P15.1: the document's example of the whole.
func TestExample(t *testing.T) {
	talk(t, shell.New(), []said{{"do 0 order 0 1 buy 10 1 1 0", "ok"}, {"begin", "ok"}, {"run 100000", "a number"}, {"answers 0", "ok 0"}})
}

// P15.1: the chapter's example needs a greater Cap than the Config of no bytes has for that account.
func TestChapterExample(t *testing.T) {
	lines := []said{{"do 0 order 0 0 buy 100 1 1 0", "ok"}, {"begin", "ok"}, {"run 100000", "a number"}, {"answers 0", "ok 0"}}
	s := shell.New()
	talk(t, s, []said{{"cap 2 100", "ok"}})
	talk(t, s, lines)
	lines[3].reply = "trader 0"
	talk(t, shell.New(), lines)
}

// P15.1: all that a new Shell has: the Config of no bytes, no messages, no floor.
func TestNew(t *testing.T) {
	s := shell.New()
	for _, line := range asked {
		talk(t, s, []said{{line, "no floor"}})
	}
	talk(t, s, []said{
		{"pick 0", "no floor"}, {"run 0", "no floor"}, {"begin", "ok"}, {"left", "0 0 0"}, {"log", "0 0"}, {"answers 0", "none"}, {"out", "none"}, {"used", "0 0 0 0"},
		{"open 0", "none"}, {"check", "ok"}, {"pick 0", "no"}, {"pick 1", "no"}, {"pick 2", "no"}, {"run 0", "0"}, {"run 1000000", "0"}, {"log", "0 0"},
	})
	// One shard, no window, one order a second, one that is open; the Caps 100, 100, 50, 50.
	talk(t, s, []said{
		{"do 0 order 0 1 buy 10 6 1 0", "ok"}, {"do 0 order 1 1 buy 10 6 1 0", "ok"}, {"do 0 order 1 1 buy 10 5 1 0", "ok"}, {"do 0 order 1 1 buy 10 1 1 1", "ok"},
		{"do 0 fill 0 5", "ok"}, {"do 0 order 1 1 buy 10 1 2 0", "ok"}, {"do 0 order 1 1 buy 10 1 1 1", "ok"}, {"begin", "ok"}, {"run 1000000", "a number"},
		{"answers 0", "trader 0;trader 0;ok 0;full 0;ok 0;rate 0;ok 1"}, {"used", "10 10 0 10"}, {"open 0", "1 1 live"}, {"open 1", "none"}, {"check", "ok"},
	})
}

// P15.1: a setting goes to where its name says, and begin tells what is wrong with it.
func TestSettings(t *testing.T) {
	for _, x := range []struct {
		name        string
		least, most int
	}{{"shards", 1, 4}, {"window", 0, 16}, {"rate", 1, 1000}, {"table", 1, 64}} {
		for _, n := range []int{0, 1, 4, 5, 16, 17, 64, 65, 1000, 1001, 1000000} {
			reply := "ok"
			if n < x.least || n > x.most {
				reply = "malformed"
			}
			s := shell.New()
			talk(t, s, []said{{fmt.Sprint(x.name, " ", n), "ok"}, {"begin", reply}, {fmt.Sprint(x.name, " ", x.least), "ok"}, {"begin", "ok"}})
		}
	}
	for i, l := range [][]said{
		{{"shards 3", "ok"}, {"begin", "ok"}, {"run 1000", "a number"}, {"answers 0", "ok 0;rate 0;ok 1;ok 2"}, {"open 1", "1 1 live"}, {"open 2", "2 1 live"}, {"open 3", "none"}},
		{{"rate 2", "ok"}, {"table 2", "ok"}, {"begin", "ok"}, {"run 1000", "a number"}, {"answers 0", "ok 0;ok 1;full 0;full 0"}},
		{{"rate 2", "ok"}, {"begin", "ok"}, {"run 1000", "a number"}, {"answers 0", "ok 0;full 0;full 0;full 0"}},
		{{"window 1", "ok"}, {"begin", "ok"}, {"run 1000", "a number"}, {"answers 0", "ok 0;duplicate 0;full 0;full 0"}},
		{{"table 4", "ok"}, {"begin", "ok"}, {"run 1000", "a number"}, {"answers 0", "ok 0;rate 0;ok 1;ok 2"}},
		{{"table 4", "ok"}, {"cap 0 20", "ok"}, {"begin", "ok"}, {"run 1000", "a number"}, {"answers 0", "ok 0;rate 0;ok 1;firm 0"}, {"used", "20 20 10 10"}},
		{{"table 4", "ok"}, {"cap 1 10", "ok"}, {"begin", "ok"}, {"run 1000", "a number"}, {"answers 0", "ok 0;rate 0;desk 0;desk 0"}, {"used", "10 10 10 0"}},
		{{"table 4", "ok"}, {"cap 2 10", "ok"}, {"begin", "ok"}, {"run 1000", "a number"}, {"answers 0", "ok 0;rate 0;ok 1;trader 0"}, {"used", "20 20 10 10"}},
		{{"table 4", "ok"}, {"cap 3 9", "ok"}, {"begin", "ok"}, {"run 1000", "a number"}, {"answers 0", "ok 0;rate 0;trader 0;ok 1"}, {"used", "20 20 20 0"}},
	} {
		s := shell.New()
		talk(t, s, []said{{"do 0 order 0 1 buy 10 1 1 0", "ok"}, {"do 0 order 0 1 buy 10 1 1 0", "ok"}, {"do 0 order 1 1 buy 10 1 1 0", "ok"}, {"do 0 order 2 1 buy 10 1 1 0", "ok"}})
		if talk(t, s, l); t.Failed() {
			t.Fatal(i)
		}
	}
}

// P15.1: Caps of each node, and of such as there aren't.
func TestCaps(t *testing.T) {
	s := shell.New()
	talk(t, s, []said{
		{"cap 0 0", "ok"}, {"cap 3 0", "ok"}, {"cap 4 0", "node"}, {"cap 5 1000000", "node"}, {"cap 1000000 0", "node"}, {"cap 0 1000000", "ok"}, {"cap 1 1000000", "ok"}, {"cap 2 1000000", "ok"},
		{"cap 3 1000000", "ok"}, {"cap 3 1000001", "what"}, {"cap 4 1000001", "what"}, {"cap 1000001 1", "what"}, {"cap 0", "what"}, {"cap", "what"}, {"cap 0 1 2", "what"}, {"cap -1 1", "what"},
		{"do 0 order 0 1 buy 10 1000 1 0", "ok"}, {"do 0 order 1 1 buy 10 1000 1 0", "ok"}, {"table 2", "ok"}, {"begin", "ok"}, {"run 1000", "a number"}, {"used", "20000 20000 10000 10000"},
	})
	// The floor keeps those that it has.
	talk(t, s, []said{{"cap 0 1", "ok"}, {"check", "ok"}, {"do 0 order 2 1 buy 10 1 1 1", "ok"}, {"begin", "ok"}, {"check", "ok"}, {"run 1000", "a number"}, {"answers 0", "firm 0;firm 0;firm 0"}, {"used", "0 0 0 0"}})
}

// P15.1: a message is brought behind those of its worker, or it is said first what is wrong.
func TestDo(t *testing.T) {
	s := shell.New()
	talk(t, s, []said{
		{"do 0 kill", "ok"}, {"do 1 rearm", "ok"}, {"do 2 ack 0", "ok"}, {"do 2 limit 0 9223372036854775807", "ok"}, {"do 3 kill", "worker"}, {"do 3 kil", "worker"}, {"do 1000000 ", "worker"},
		{"do 1000001 kill", "what"}, {"do 00 kill", "what"}, {"do x kill", "what"}, {"do  0 kill", "what"}, {"do -1 kill", "what"}, {"do 0", "what"}, {"do", "what"}, {"do ", "what"}, {"do 3", "what"},
		{"do  ", "what"}, {"do 0 ", "message"}, {"do 0  kill", "message"}, {"do 0 kill ", "message"}, {"do 0 kil", "message"}, {"do 0 fill 0", "message"}, {"do 0 fill 00 1", "message"}, {"do 0 do 0 kill", "message"},
		{"do 0 cancel 4294967296", "message"}, {"do 0 kill\n", "message"}, {"do\t0 kill", "what"}, {"Do 0 kill", "what"}, {" do 0 kill", "what"}, {"kill", "what"}, {"0 kill", "what"},
		{"begin", "ok"}, {"left", "1 1 2"}, {"do 0 kill", "ok"}, {"left", "1 1 2"}, {"begin", "ok"}, {"left", "2 1 2"},
	})
}

// P15.1: begin anew: all messages stay, and where there can't be a floor that which was stays, with its Config.
func TestBegin(t *testing.T) {
	talk(t, shell.New(), []said{
		{"shards 0", "ok"}, {"begin", "malformed"}, {"left", "no floor"}, {"check", "no floor"}, {"shards 2", "ok"}, {"do 0 order 1 1 sell 10 5 7 0", "ok"}, {"do 1 order 0 1 sell 10 5 7 0", "ok"},
		{"begin", "ok"}, {"left", "1 1 0"}, {"pick 0", "yes"}, {"pick 1", "yes"}, {"left", "0 0 0"}, {"log", "2 2"}, {"run 1000", "a number"}, {"log", "2 0"}, {"out", "new 1;new 0"},
		{"cap 3 49", "ok"}, {"check", "ok"}, {"shards 5", "ok"}, {"check", "ok"}, {"begin", "malformed"}, {"check", "ok"}, {"out", "new 1;new 0"}, {"log", "2 0"}, {"open 1", "1 5 live"}, {"used", "100 100 50 50"},
		{"shards 1", "ok"}, {"begin", "ok"}, {"left", "1 1 0"}, {"log", "0 0"}, {"out", "none"}, {"used", "0 0 0 0"}, {"open 1", "none"}, {"check", "ok"},
		{"run 1000", "a number"}, {"answers 0", "trader 0"}, {"answers 1", "ok 0"}, {"out", "new 0"}, {"open 0", "0 5 live"}, {"open 1", "none"}, {"used", "50 50 50 0"}, {"check", "ok"},
	})
}

// P15.1: picks of any number, and runs that come to their end, or don't.
func TestSteps(t *testing.T) {
	talk(t, shell.New(), []said{
		{"do 1 ack 0", "ok"}, {"do 1 ack 0", "ok"}, {"begin", "ok"}, {"run 0", "-1"}, {"left", "0 2 0"}, {"pick 0", "no"}, {"pick 3", "no"}, {"pick 2", "no"}, {"pick 999998", "no"}, {"log", "0 0"},
		// An Ack that is refused: a latch, a look at the switch, free.
		{"pick 1", "yes"}, {"left", "0 1 0"}, {"log", "1 1"}, {"answers 1", "none"}, {"pick 1000000", "yes"}, {"pick 4", "yes"}, {"log", "1 0"}, {"answers 1", "unknown 0"}, {"left", "0 1 0"},
		{"run 2", "-1"}, {"log", "2 1"}, {"answers 1", "unknown 0"}, {"run 0", "-1"}, {"run 2", "1"}, {"log", "2 0"}, {"run 0", "0"}, {"pick 1", "no"}, {"answers 1", "unknown 0;unknown 0"}, {"answers 4", "none"},
	})
}

// P15.1, P3, P5: a Kill: what is open is asked to be cancelled, once, and no order comes till a Rearm; Sweeps have no answer.
func TestKill(t *testing.T) {
	s := shell.New()
	talk(t, s, []said{
		{"shards 2", "ok"}, {"table 9", "ok"}, {"rate 9", "ok"}, {"do 0 order 0 1 buy 10 2 1 0", "ok"}, {"do 0 order 1 1 sell 5 3 1 0", "ok"}, {"do 0 order 2 1 buy 10 1 1 0", "ok"}, {"do 0 cancel 2", "ok"},
		{"do 0 kill", "ok"}, {"do 0 order 0 1 buy 10 2 2 0", "ok"}, {"do 0 kill", "ok"}, {"do 0 rearm", "ok"}, {"do 0 rearm", "ok"}, {"do 0 kill", "ok"}, {"begin", "ok"}, {"run 1000", "a number"},
		{"answers 0", "ok 0;ok 1;ok 2;ok 0;ok 0;killed 0;ok 0;ok 1;state 0;ok 1"}, {"log", "16 0"}, {"out", "new 0;new 1;new 2;cancel 2;cancel 0;cancel 1"},
		{"open 0", "0 2 pending;2 1 pending"}, {"open 1", "1 3 pending"}, {"used", "45 45 30 15"}, {"check", "ok"},
		{"do 1 ack 2", "ok"}, {"do 1 fill 0 1", "ok"}, {"do 1 fill 1 2", "ok"}, {"begin", "ok"},
	})
	goOn(s, 0)
	talk(t, s, []said{{"left", "0 3 0"}, {"run 1000", "a number"}, {"open 0", "0 1 pending"}, {"open 1", "1 1 pending"}, {"used", "15 15 10 5"}, {"do 1 ack 0", "ok"}, {"do 1 ack 1", "ok"}, {"do 1 order 0 1 buy 10 1 5 0", "ok"}, {"begin", "ok"}})
	goOn(s, 0)
	talk(t, s, []said{
		{"left", "0 6 0"}, {"run 1000", "a number"}, {"answers 1", "ok 0;ok 0;ok 0;ok 0;ok 0;killed 0"}, {"open 0", "none"}, {"open 1", "none"}, {"used", "0 0 0 0"}, {"check", "ok"},
		{"out", "new 0;new 1;new 2;cancel 2;cancel 0;cancel 1"},
	})
}

// goOn picks a worker till it has nothing to do.
func goOn(s *shell.Shell, who int) {
	for s.Do(fmt.Sprint("pick ", who)) == "yes" {
	}
}

// P15.1: lines that are none, with a floor and without one; nothing is done.
func TestWhat(t *testing.T) {
	l := []string{
		"", " ", "  ", "   ", "x", "what", "no floor", "begin ", " begin", "begin 0", "Begin", "beginn", "begi", "begin\n", "begin begin", "begin  ",
		"left ", "left 0", "log 0", "log ", "logs", "out 0", "out ", "used 0", "used ", "check 0", "check ", "CHECK", "check\x00", "none", "ok", "\xff", "\uff50ick 0",
		"shards 0 0", "window 0 0", "rate 1 1", "table 1 ", "pick 0 0", "run 0 0", "answers 0 0", "open 0 0", "open 0;open 1", "cap 0 0 0", "cap 0 0 ", "cap  0 0", "cap 0  0", "begin 0 0", "left 0 0", "used 1 2",
	}
	for _, name := range []string{"shards", "window", "rate", "table", "pick", "run", "answers", "open", "cap 0", "cap 4"} {
		l = append(l, name, name+"0", strings.ToUpper(name)+" 0", " "+name+" 0", strings.Replace(name, " ", "\t", 1)+"\t0")
		for _, n := range []string{
			"", " ", "00", "01", "-0", "-1", "+1", "1 ", " 1", "1.", "1e3", "0x1", "1_0", "x", "1000001", "0000001", "1000000 ", "9223372036854775807", "9223372036854775808", "18446744073709551616", "18446744073709551617",
			"-9223372036854775809", "\u0663", "1\n", "1,", strings.Repeat("9", 1000), strings.Repeat("0", 1000), "ok", "\uff11",
		} {
			l = append(l, name+" "+n)
		}
	}
	for _, ahead := range [][]string{nil, {"shards 2", "do 0 order 0 1 buy 10 1 1 0", "do 1 kill", "begin", "pick 0"}} {
		s := shell.New()
		for _, line := range ahead {
			s.Do(line)
		}
		for _, line := range l {
			if got := s.Do(line); got != "what" {
				t.Errorf("%q behind %q: %q", line, ahead, got)
			}
		}
		same(t, s, ahead)
	}
}

// same holds what a Shell tells against that of one to which just these lines came, and what both do then.
func same(t *testing.T, s *shell.Shell, lines []string) {
	t.Helper()
	o := shell.New()
	for _, line := range lines {
		o.Do(line)
	}
	for _, line := range slices.Concat(asked, []string{"begin", "left", "run 1000000"}, asked) {
		if got, want := s.Do(line), o.Do(line); got != want {
			t.Errorf("%q behind %q: %q; want %q", line, lines, got, want)
		}
	}
}

// P15.1: the edges of a line's numbers; a line that is none is that ahead of there being no floor.
func TestNumbers(t *testing.T) {
	s := shell.New()
	for _, name := range []string{"pick", "run", "answers", "open"} {
		for _, n := range []string{"0", "9", "10", "999999", "1000000"} {
			talk(t, s, []said{{name + " " + n, "no floor"}, {name + " " + n + "x", "what"}})
		}
		talk(t, s, []said{{name + " 1000001", "what"}, {name, "what"}, {name + " ", "what"}})
	}
	talk(t, s, []said{
		{"do 0 ack 0", "ok"}, {"begin", "ok"}, {"answers 1000000", "none"}, {"open 1000000", "none"}, {"pick 1000000", "no"}, {"pick 999999", "yes"}, {"run 1000000", "2"}, {"answers 0", "unknown 0"},
		{"answers 1000001", "what"}, {"open 1000001", "what"}, {"pick 1000001", "what"}, {"run 1000001", "what"}, {"run -1", "what"},
	})
}

// P15.1, P1: a nil Shell; one that New hasn't made, of which nothing is told but that each line ends.
func TestNone(t *testing.T) {
	var none *shell.Shell
	r := rand.New(rand.NewSource(1))
	for range 500 {
		line := anyLine(r)
		if got := none.Do(line); got != "what" {
			t.Errorf("%q: %q", line, got)
		}
		new(shell.Shell).Do(line)
	}
	zero := new(shell.Shell)
	for range 2000 {
		zero.Do(anyLine(r))
	}
}

// P15.1, P8: any lines against a twin that does each by the layers below.
func TestTwin(t *testing.T) {
	r := rand.New(rand.NewSource(2))
	met := map[string]int{}
	for range 1500 {
		var lines []string
		for range 20 + r.Intn(180) {
			lines = append(lines, anyLine(r))
		}
		for i, reply := range hold(t, lines) {
			if strings.ContainsAny(reply, " 0123456789;") && reply != "no floor" {
				reply, _, _ = strings.Cut(lines[i], " ")
				reply = "of " + reply
			}
			met[reply]++
		}
	}
	for _, reply := range []string{"ok", "what", "no floor", "node", "worker", "message", "malformed", "yes", "no", "none", "of run", "of left", "of log", "of answers", "of out", "of used", "of open"} {
		if met[reply] < 200 {
			t.Errorf("hardly met: %q: %d", reply, met[reply])
		}
	}
}

// P15.1, P6: one worker's lines against a Model.
func TestOneWorker(t *testing.T) {
	r := rand.New(rand.NewSource(3))
	for range 300 {
		c := script.Read(nil).Config
		c.Shards, c.Window, c.Rate, c.Table = 1+r.Intn(4), r.Intn(4), 1+r.Intn(9), 1+r.Intn(9)
		who, s := r.Intn(3), shell.New()
		talk(t, s, []said{{fmt.Sprint("shards ", c.Shards), "ok"}, {fmt.Sprint("window ", c.Window), "ok"}, {fmt.Sprint("rate ", c.Rate), "ok"}, {fmt.Sprint("table ", c.Table), "ok"}})
		for n := range c.Nodes {
			c.Nodes[n].Cap = int64(50 + r.Intn(400))
			talk(t, s, []said{{fmt.Sprint("cap ", n, " ", c.Nodes[n].Cap), "ok"}})
		}
		var messages []wire.Msg
		for range r.Intn(60) {
			line := anyMessage(r)
			m, _ := script.Parse(line)
			messages = append(messages, m)
			talk(t, s, []said{{fmt.Sprint("do ", who, " ", line), "ok"}})
		}
		talk(t, s, []said{{"begin", "ok"}, {"run 1000000", "a number"}, {"left", "0 0 0"}, {"check", "ok"}})
		asTheModel(t, s, who, c, messages)
	}
}

// asTheModel holds what a Shell tells, whose floor has come to its end, against a Model that did one worker's messages.
func asTheModel(t *testing.T, s *shell.Shell, who int, c rules.Config, messages []wire.Msg) {
	t.Helper()
	m, _ := model.Begin(c)
	var answers []model.Answer
	var out []model.Out
	entries := 0
	do := func(o model.Op) model.Answer {
		entries++
		a, more := m.Do(o)
		out = append(out, more...)
		return a
	}
	for _, message := range messages {
		a := do(model.Op{Msg: message})
		answers = append(answers, a)
		if message.Kind == wire.Kill {
			for shard := range c.Shards {
				do(model.Op{Sweep: true, Shard: shard, Epoch: int64(a.Id)})
			}
		}
	}
	used := m.Credit().Used
	talk(t, s, []said{
		{fmt.Sprint("answers ", who), answersText(answers)}, {fmt.Sprint("answers ", (who+1)%3), "none"}, {"answers 3", "none"}, {"out", outText(out)}, {"log", fmt.Sprint(entries, " 0")},
		{"used", fmt.Sprintf("%d %d %d %d", used[0], used[1], used[2], used[3])}, {"open 4", "none"},
	})
	for shard := range 4 {
		talk(t, s, []said{{fmt.Sprint("open ", shard), openText(m.Book(shard))}})
	}
}

// P15.2: a Shell's replies hang on its own lines alone, whatever is done by others between; so do those of Lines.
func TestItsLinesAlone(t *testing.T) {
	r := rand.New(rand.NewSource(4))
	for range 100 {
		var shells [3]*shell.Shell
		var lines, replies [3][]string
		for i := range shells {
			shells[i] = shell.New()
		}
		for range 300 {
			i, line := r.Intn(3), anyLine(r)
			lines[i], replies[i] = append(lines[i], line), append(replies[i], shells[i].Do(line))
		}
		for i, l := range lines {
			was := slices.Clone(l)
			if got := shell.Lines(l); !slices.Equal(got, replies[i]) {
				t.Fatalf("%q: %q; ahead of that: %q", l, got, replies[i])
			}
			if !slices.Equal(l, was) {
				t.Fatal("lines are changed")
			}
		}
	}
}

// P15.1, P15.2: Lines of none, of one; its spare room; each is of a new Shell.
func TestLines(t *testing.T) {
	if len(shell.Lines(nil)) != 0 || len(shell.Lines([]string{})) != 0 {
		t.Error("of no lines")
	}
	room := []string{"begin", "left", "do 0 kill", "log"}
	for range 2 {
		if got := shell.Lines(room[:2]); !slices.Equal(got, []string{"ok", "0 0 0"}) || room[2] != "do 0 kill" || room[3] != "log" {
			t.Error(got, room)
		}
		if got := shell.Lines([]string{"left", "do 0 kill", "shards 2", "cap 0 1"}); !slices.Equal(got, []string{"no floor", "ok", "ok", "ok"}) {
			t.Error(got)
		}
	}
	got := shell.Lines(room)
	got[0] = "x"
	if got := shell.Lines(room); !slices.Equal(got, []string{"ok", "0 0 0", "ok", "0 0"}) {
		t.Error(got)
	}
}

// P15.3: check is ok behind each line, wherever the floor is.
func TestCheck(t *testing.T) {
	r := rand.New(rand.NewSource(5))
	for range 150 {
		s := shell.New()
		for _, line := range []string{fmt.Sprint("shards ", 1+r.Intn(4)), "rate 9", "table 9", fmt.Sprint("cap 0 ", 100+r.Intn(200)), "cap 1 200", "cap 2 120", "cap 3 120"} {
			s.Do(line)
		}
		for range 10 + r.Intn(30) {
			s.Do(fmt.Sprint("do ", r.Intn(3), " ", anyMessage(r)))
		}
		s.Do("begin")
		for range 200 {
			line := fmt.Sprint("pick ", r.Intn(3))
			if r.Intn(8) == 0 {
				line = anyLine(r)
			}
			s.Do(line)
			if got := s.Do("check"); got != "ok" {
				t.Fatalf("behind %q: %q", line, got)
			}
		}
		if s.Do("run 1000000") == "-1" || s.Do("check") != "ok" {
			t.Fatal("at its end")
		}
	}
}

// P15.3: as much was done as layer 10 takes.
func TestMuch(t *testing.T) {
	s := shell.New()
	for i := range 65536 {
		s.Do(fmt.Sprint("do ", i%3, " order 3 0 buy 1 1 1 1"))
	}
	talk(t, s, []said{{"begin", "ok"}, {"left", "21846 21845 21845"}, {"run 21845", "-1"}, {"check", "ok"}, {"run 1000000", "1"}, {"log", "65536 0"}, {"check", "ok"}})
	if got := s.Do("answers 0"); got != strings.Repeat("account 0;", 21845)+"account 0" {
		t.Error(len(got))
	}
}

// FuzzShell goes on from the seeds by: go test -fuzz FuzzShell ./shell
func FuzzShell(f *testing.F) {
	for _, s := range []string{
		"do 0 order 0 1 buy 10 1 1 0\nbegin\nrun 100000\nanswers 0", "shards 2\ncap 0 90\ncap 4 1\nrate 9\ntable 9\nwindow 1\ndo 0 kill\ndo 1 order 1 1 sell 10 1 1 0\ndo 3 kill\ndo 0 x\nbegin\npick 1\npick 0\nout\nused\nopen 1\nlog\ncheck",
		"left\nleft 0\n\nbegin\nbegin\nleft", "do 2 fill 0 1\ndo 2 ack 0\ndo 2 cancel 0\ndo 2 limit 0 50\ndo 2 rearm\nbegin\nrun 5\nrun 50\nanswers 2",
	} {
		f.Add(s)
	}
	f.Fuzz(func(t *testing.T, s string) { hold(t, strings.Split(s, "\n")) })
}
