package script

import (
	"strconv"
	"strings"

	"stopgate/rules"
	"stopgate/wire"
)

// The words of a Line, but its numbers.
const (
	orderWord  = "order"
	cancelWord = "cancel"
	fillWord   = "fill"
	ackWord    = "ack"
	killWord   = "kill"
	rearmWord  = "rearm"
	limitWord  = "limit"
	buyWord    = "buy"
	sellWord   = "sell"
)

const blank = " "

// maxWords is how many an order has, which has the most.
const maxWords = 8

func Line(m wire.Msg) string {
	if !wire.Right(m) {
		return ""
	}
	switch m.Kind {
	case wire.Order:
		o := m.Order
		return line(orderWord, digits(o.Account), digits(o.Symbol), side(o.Sell), digits(o.Price), digits(o.Qty), digits(o.Number), digits(o.Second))
	case wire.Cancel:
		return line(cancelWord, digits(m.Id))
	case wire.Fill:
		return line(fillWord, digits(m.Id), digits(m.Qty))
	case wire.Ack:
		return line(ackWord, digits(m.Id))
	case wire.Kill:
		return killWord
	case wire.Rearm:
		return rearmWord
	default:
		return line(limitWord, digits(m.Node), digits(m.Most))
	}
}

func line(words ...string) string { return strings.Join(words, blank) }

func digits[N int | int64](n N) string { return strconv.FormatInt(int64(n), 10) }

func side(sell bool) string {
	if sell {
		return sellWord
	}
	return buyWord
}

func Parse(s string) (wire.Msg, bool) {
	m := guess(s)
	// The guess takes more than Lines, and each message has one Line: so this alone says whether s is one.
	if Line(m) != s {
		return wire.Msg{}, false
	}
	return m, true
}

// guess is the message whose Line s is, if it is one's; else it is any one whose Line s isn't.
func guess(s string) wire.Msg {
	// What is behind the last word that may be stays with that one: such a text is no Line, however many words it has.
	l := words(strings.SplitN(s, blank, maxWords))
	switch l.word(0) {
	case orderWord:
		return wire.Msg{Kind: wire.Order, Order: rules.Order{
			Account: int(l.number(1)), Symbol: int(l.number(2)), Sell: l.word(3) == sellWord,
			Price: l.number(4), Qty: l.number(5), Number: l.number(6), Second: l.number(7),
		}}
	case cancelWord:
		return wire.Msg{Kind: wire.Cancel, Id: int(l.number(1))}
	case fillWord:
		return wire.Msg{Kind: wire.Fill, Id: int(l.number(1)), Qty: l.number(2)}
	case ackWord:
		return wire.Msg{Kind: wire.Ack, Id: int(l.number(1))}
	case killWord:
		return wire.Msg{Kind: wire.Kill}
	case rearmWord:
		return wire.Msg{Kind: wire.Rearm}
	case limitWord:
		return wire.Msg{Kind: wire.Limit, Node: int(l.number(1)), Most: l.number(2)}
	default:
		return wire.Msg{}
	}
}

// words are what stands between blanks.
type words []string

// word is that in a place; an empty one, if there is none.
func (l words) word(at int) string {
	if at >= len(l) {
		return ""
	}
	return l[at]
}

// number is what a word says, or any number, if it is none's digits.
func (l words) number(at int) int64 {
	n, _ := strconv.ParseInt(l.word(at), 10, 64)
	return n
}
