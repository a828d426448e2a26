package audit

import (
	"cmp"
	"math"
	"slices"
	"sort"

	"stopgate/api"
	"stopgate/hist"
	"stopgate/model"
	"stopgate/wire"
)

// never is an until that there isn't: nothing is behind it.
const never = math.MaxInt

func Stopped(l []hist.Entry, out []model.Out, at []int) bool {
	rearms, news, passed := rearmsOf(l), newsOf(out, at), passedOf(l)
	for _, e := range l {
		if !is(e, wire.Kill) || e.End == 0 || e.Answer.Code != api.OK {
			continue
		}
		until := rearms.until(e.Mark)
		if went, ok := news.least(func(at int) bool { return at > e.End }); ok && went <= until {
			return false
		}
		if ended, ok := passed.least(func(begin int) bool { return begin >= e.End }); ok && ended <= until {
			return false
		}
	}
	return true
}

// pair is two times of one thing: that by which it counts, and that of which the least one is asked for.
type pair struct{ by, time int }

// stair is pairs, rising by the first time; the other one is the least of its own and of all those behind it. So a Kill
// needn't go through all that there is.
type stair []pair

func stairOf(l []pair) stair {
	slices.SortFunc(l, func(a, b pair) int { return cmp.Compare(a.by, b.by) })
	for i := len(l) - 2; i >= 0; i-- {
		l[i].time = min(l[i].time, l[i+1].time)
	}
	return l
}

// least is the least time of the pairs that count: the first one that does, and all behind it. false: there is none.
func (s stair) least(counts func(by int) bool) (int, bool) {
	i := sort.Search(len(s), func(i int) bool { return counts(s[i].by) })
	if i == len(s) {
		return 0, false
	}
	return s[i].time, true
}

// rearms is when Rearms began.
type rearms struct {
	underway int   // the first of those that haven't ended; never: there is none
	ended    stair // by their Ends
}

func rearmsOf(l []hist.Entry) rearms {
	r := rearms{underway: never}
	var ended []pair
	for _, e := range l {
		if !is(e, wire.Rearm) {
			continue
		}
		if e.End == 0 {
			r.underway = min(r.underway, e.Begin)
		} else {
			ended = append(ended, pair{by: e.End, time: e.Begin})
		}
	}
	r.ended = stairOf(ended)
	return r
}

// until is when the first one began of those that may have turned the switch on again behind a Mark.
func (r rearms) until(mark int) int {
	begin, ok := r.ended.least(func(end int) bool { return end > mark })
	if !ok {
		return r.underway
	}
	return min(begin, r.underway)
}

// newsOf is when orders went out.
func newsOf(out []model.Out, at []int) stair {
	var l []pair
	for i := range min(len(out), len(at)) {
		if out[i].Kind == model.New {
			l = append(l, pair{by: at[i], time: at[i]})
		}
	}
	return stairOf(l)
}

// passedOf is when the Orders ended that no switch can have stopped, by their Begins.
func passedOf(l []hist.Entry) stair {
	var passed []pair
	for _, e := range l {
		if is(e, wire.Order) && e.End != 0 && e.Answer.Code != api.Killed && e.Answer.Code != api.Malformed {
			passed = append(passed, pair{by: e.Begin, time: e.End})
		}
	}
	return stairOf(passed)
}
