package shell

import (
	"strings"

	"stopgate/audit"
	"stopgate/book"
	"stopgate/floor"
	"stopgate/hist"
	"stopgate/model"
	"stopgate/rules"
)

// begun is a floor, and the Config that it has: that of the Shell may be another one meanwhile.
type begun struct {
	config rules.Config
	floor  *floor.Floor
}

func (b begun) pick(k int) string {
	if b.floor.Pick(k) {
		return "yes"
	}
	return "no"
}

func (b begun) run(rounds int) string { return digits(b.floor.Rest(rounds)) }

func (b begun) left() string {
	var l []string
	for who := range workers {
		l = append(l, digits(b.floor.Left(who)))
	}
	return strings.Join(l, blank)
}

func (b begun) log() string {
	log := b.floor.Gate().Log()
	underway := 0
	for _, e := range log {
		if e.End == 0 {
			underway++
		}
	}
	return digits(len(log)) + blank + digits(underway)
}

func (b begun) answers(who int) string {
	var l []string
	for _, e := range b.floor.Gate().Log() {
		if e.Who == who && answered(e) {
			l = append(l, e.Answer.Code.Word()+blank+digits(e.Answer.Id))
		}
	}
	return list(l)
}

// answered: is it a message's, and over?
func answered(e hist.Entry) bool { return e.End != 0 && !e.Op.Sweep }

func (b begun) out() string {
	out, _ := b.floor.Gate().Out()
	var l []string
	for _, o := range out {
		l = append(l, kind(o)+blank+digits(o.Id))
	}
	return list(l)
}

func kind(o model.Out) string {
	if o.Kind == model.Cancel {
		return "cancel"
	}
	return "new"
}

func (b begun) used() string {
	var l []string
	for n := range b.config.Nodes {
		l = append(l, digits(b.floor.Gate().Used(n)))
	}
	return strings.Join(l, blank)
}

func (b begun) open(shard int) string {
	var l []string
	for _, e := range b.floor.Gate().Book(shard).Open {
		l = append(l, digits(e.Id)+blank+digits(e.Left)+blank+state(e))
	}
	return list(l)
}

func state(e book.Entry) string {
	if e.State == book.Pending {
		return "pending"
	}
	return "live"
}

func (b begun) check() string {
	g := b.floor.Gate()
	out, at := g.Out()
	if word := audit.Check(b.config, workers, g.Log(), out, at); word != "" {
		return word
	}
	return done
}

// list is what is told of several things.
func list(l []string) string {
	if len(l) == 0 {
		return "none"
	}
	return strings.Join(l, ";")
}
