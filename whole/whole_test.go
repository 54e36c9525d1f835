// Package whole_test holds the layers together against the document's promises of all of it.
package whole_test

import (
	"reflect"
	"slices"
	"testing"

	"plait/api"
	"plait/check"
	"plait/code"
	"plait/explore"
	"plait/order"
	"plait/race"
	"plait/run"
	"plait/samples"
	"plait/stamp"
	"plait/tally"
	"plait/text"
	"plait/trace"
	"plait/vclock"
)

func sample(t *testing.T, name string) api.Prog {
	t.Helper()
	for _, s := range samples.All() {
		if s.Name == name {
			return s.Prog
		}
	}
	t.Fatal("no sample", name)
	return api.Prog{}
}

func sweep(t *testing.T, name string) api.Sweep {
	t.Helper()
	s, why := explore.Sweep(sample(t, name), 60, 300)
	if why != api.OK {
		t.Fatal(name, why)
	}
	return s
}

// TestTenExamples are the document's examples of the whole, by all their runs.
func TestTenExamples(t *testing.T) {
	for _, name := range []string{"two writes", "received with room"} {
		if s := sweep(t, name); !s.Whole || s.Racy != s.Runs {
			t.Error("a race in each run:", name, s)
		}
	}
	for _, name := range []string{"sent without room", "sent with room", "received without room", "closed", "locked", "once"} {
		if s := sweep(t, name); s.Racy != 0 || s.Ends[api.SDone] != s.Runs {
			t.Error("a race in none:", name, s)
		}
	}
	if s := sweep(t, "default"); !s.Whole || s.Racy == 0 || s.Racy == s.Runs {
		t.Error("it hangs on who comes first:", s)
	}
	if s := sweep(t, "closed twice"); !s.Whole || s.Ends[api.SPanic] != s.Runs {
		t.Error("a panic:", s)
	}
	if s := sweep(t, "stuck"); !s.Whole || s.Ends[api.SStuck] != s.Runs {
		t.Error("stuck:", s)
	}
	if v, why := check.Check("\x09", nil, 1); v != (api.Verdict{Kind: api.VBytes, Why: api.ErrSize}) || why != api.OK {
		t.Error("no program's bytes:", v, why)
	}
}

// TestOneRun is P2: a run is had again by its choices' picks, and from its bytes.
func TestOneRun(t *testing.T) {
	for n := range 100 {
		p := samples.Made(n)
		picks := samples.Picks(n, 90)
		r, why := run.Run(p, picks, 90)
		if why != api.OK {
			t.Fatal(why)
		}
		least, why := run.Replay(p, r.Choices)
		if why != api.OK {
			t.Fatal(why)
		}
		bytes, why := code.Encode(p)
		if why != api.OK {
			t.Fatal(why)
		}
		l, why := check.Events(bytes, least, 90)
		if why != api.OK || !slices.Equal(l, r.Events) {
			t.Fatal(n, why)
		}
	}
}

// TestOneOrder is P3: an event is before another one just if that one's clock is at least its own.
func TestOneOrder(t *testing.T) {
	for n := range 60 {
		p := samples.Made(n)
		r, _ := run.Run(p, samples.Picks(n, 90), 40)
		clocks, why := stamp.All(p.Caps, r.Events)
		if why != api.OK {
			t.Fatal(why)
		}
		for j := range r.Events {
			past, why := order.Past(p.Caps, r.Events, j)
			if why != api.OK {
				t.Fatal(why)
			}
			for i := range r.Events {
				leq, _ := vclock.Leq(clocks[i], clocks[j])
				if (leq && i != j) != slices.Contains(past, i) {
					t.Fatal(n, i, j, leq, past)
				}
			}
		}
	}
}

// TestTheFirstRace is P4.
func TestTheFirstRace(t *testing.T) {
	for n := range 150 {
		p := samples.Made(n)
		r, _ := run.Run(p, samples.Picks(n, 90), 90)
		x, why := race.Find(p.Caps, r.Events)
		pairs, _ := tally.Pairs(p.Caps, r.Events)
		if why == api.ErrNone {
			if len(pairs) > 0 {
				t.Fatal(n, pairs)
			}
			continue
		}
		is, _ := race.Races(p.Caps, r.Events, x.Earlier, x.Later)
		apart, _ := order.Apart(p.Caps, r.Events, x.Earlier, x.Later)
		ahead, _ := tally.Pairs(p.Caps, r.Events[:x.Later])
		if !is || !apart || x.Earlier >= x.Later || r.Events[x.Later].Obj != x.Var || len(pairs) == 0 || len(ahead) > 0 {
			t.Fatal(n, x, is, apart, pairs, ahead)
		}
	}
}

// TestAllRuns is P5: each once, in order, from the first one to the last; and none of them is a wrong one.
func TestAllRuns(t *testing.T) {
	for n := range 60 {
		p := samples.Made(n)
		picks, why := explore.First(p, 6)
		for k := 0; why == api.OK && k < 60; k++ {
			r, _ := run.Run(p, picks, 6)
			if i, _ := trace.Wrong(p.Caps, r.Events); i != -1 {
				t.Fatal(n, picks, i)
			}
			next, ended := explore.Next(p, picks, 6)
			if ended == api.OK && slices.Compare(picks, next) >= 0 {
				t.Fatal(n, picks, next)
			}
			picks, why = next, ended
		}
		if why != api.OK && why != api.ErrNone {
			t.Fatal(n, why)
		}
	}
}

// TestTextsOfBlocks: what is read by people is the program that is run.
func TestTextsOfBlocks(t *testing.T) {
	for n := range 100 {
		p := samples.Made(n)
		var blocks []string
		for _, block := range p.Blocks {
			s, why := text.Print(block)
			if why != api.OK {
				t.Fatal(why)
			}
			blocks = append(blocks, s)
		}
		q := samples.Of(p, blocks...)
		a, _ := code.Encode(p)
		b, why := code.Encode(q)
		if a != b || why != api.OK || !reflect.DeepEqual(p.Caps, q.Caps) {
			t.Fatal(n, blocks)
		}
	}
}
