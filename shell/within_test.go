package shell

import (
	"testing"

	"stopgate/api"
	"stopgate/floor"
	"stopgate/rules"
	"stopgate/wire"
)

// Here is what no line shows: of what came about by lines audit has nothing to say.

// P15.1: check tells audit's word, by the Config that it is given.
func TestCheckTellsTheWord(t *testing.T) {
	s := New()
	for _, line := range []string{"do 0 order 0 1 buy 10 1 1 0", "begin", "run 1000"} {
		s.Do(line)
	}
	if got := s.Do("check"); got != "ok" {
		t.Error(got)
	}
	s.begun.config.Shards = 5
	if got := s.Do("check"); got != "config" {
		t.Error(got)
	}
	s.begun.config.Shards = 1
	s.begun.config.Nodes[2].Cap = 9
	if got := s.Do("check"); got != "order" {
		t.Error(got)
	}
}

// P15.1: of a floor that has a worker more than audit is told of, audit's word too.
func TestCheckOfThreeWorkers(t *testing.T) {
	c := New().config
	for workers, want := range map[int]string{3: "ok", 4: "right"} {
		lists := make([][]wire.Msg, workers)
		lists[workers-1] = []wire.Msg{{Order: rules.Order{Symbol: 1, Price: 10, Qty: 1}}}
		f, code := floor.New(c, lists)
		if code != api.OK || f.Rest(1000) < 0 {
			t.Fatal(code)
		}
		if got := (begun{config: c, floor: f}).check(); got != want {
			t.Error(workers, got)
		}
	}
}
