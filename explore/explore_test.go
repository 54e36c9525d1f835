package explore_test

import (
	"math"
	"slices"
	"testing"

	"plait/api"
	"plait/explore"
	"plait/machine"
	"plait/race"
	"plait/run"
	"plait/samples"
)

// every are the picks of the first runs, in order, as one finds them who tries each choice at each step; enough are so many.
func every(p api.Prog, fuel, enough int) [][]int {
	var all [][]int
	var walk func(w api.World, picks []int)
	walk = func(w api.World, picks []int) {
		if len(all) == enough {
			return
		}
		if w.Status != api.SRun || len(picks) == fuel {
			all = append(all, slices.Clone(picks))
			return
		}
		for i, c := range machine.Choices(w) {
			next, _, _ := machine.Step(w, c)
			walk(next, append(slices.Clone(picks), i))
		}
	}
	w, _, _ := machine.New(p)
	walk(w, []int{})
	return all
}

func racy(t *testing.T, p api.Prog, picks []int, fuel int) (int, bool) {
	t.Helper()
	r, why := run.Run(p, picks, fuel)
	if why != api.OK {
		t.Fatal(why)
	}
	_, why = race.Find(p.Caps, r.Events)
	return r.Status, why == api.OK && r.Status != api.SLimit
}

// check holds all calls against runs that are found by trying; it answers what a sweep tells.
func check(t *testing.T, p api.Prog, fuel, most int) api.Sweep {
	t.Helper()
	all := every(p, fuel, most+1)
	picks, why := explore.First(p, fuel)
	want := api.Sweep{Whole: len(all) <= most}
	var found []int
	none := api.ErrNone
	for i, own := range all {
		if !slices.Equal(picks, own) || why != api.OK {
			t.Fatal(i, picks, own, why)
		}
		r, _ := run.Run(p, own, fuel)
		if again, _ := run.Replay(p, r.Choices); !slices.Equal(again, own) {
			t.Fatal(again, own)
		}
		if i < most {
			status, is := racy(t, p, own, fuel)
			want.Runs++
			want.Ends[status]++
			if is {
				want.Racy++
				if none != api.OK {
					found, none = own, api.OK
				}
			}
		}
		before := slices.Clone(picks)
		next, ended := explore.Next(p, picks, fuel)
		if !slices.Equal(before, picks) {
			t.Fatal("changed", before, picks)
		}
		if i == len(all)-1 && want.Whole {
			if len(next) > 0 || ended != api.ErrNone {
				t.Fatal("the last one", next, ended)
			}
			break
		}
		picks, why = next, ended
	}
	if s, why := explore.Sweep(p, fuel, most); s != want || why != api.OK {
		t.Fatal("sweep", s, want, why)
	}
	if l, why := explore.Find(p, fuel, most); !slices.Equal(l, found) || why != none {
		t.Fatal("find", l, found, why)
	}
	return want
}

func TestAllRuns(t *testing.T) {
	whole, part, races, quiet := 0, 0, 0, 0
	for n := range 120 {
		p := samples.Made(n)
		for _, x := range [][2]int{{4, 300}, {7, 40}, {30, 5}} {
			s := check(t, p, x[0], x[1])
			if s.Whole {
				whole++
			} else {
				part++
			}
			if s.Racy > 0 {
				races++
			} else {
				quiet++
			}
		}
	}
	if min(whole, part, races, quiet) < 20 {
		t.Error("too few", whole, part, races, quiet)
	}
	for _, s := range samples.All() {
		check(t, s.Prog, 14, 100)
	}
}

func TestExample(t *testing.T) {
	p := samples.Of(api.Prog{Vars: 1}, "go 1; write 0", "write 0")
	want := api.Sweep{Runs: 2, Racy: 2, Whole: true}
	want.Ends[api.SDone] = 2
	if s, why := explore.Sweep(p, 9, 300); s != want || why != api.OK {
		t.Error(s, why)
	}
	if s, why := explore.Sweep(p, 400, 300); s != want || why != api.OK {
		t.Error("much fuel", s, why)
	}
	if s, why := explore.Sweep(p, 9, 2); s != want || why != api.OK {
		t.Error("just all", s, why)
	}
	want.Runs, want.Racy, want.Whole, want.Ends[api.SDone] = 1, 1, false, 1
	if s, why := explore.Sweep(p, 9, 1); s != want || why != api.OK {
		t.Error(s, why)
	}
	if l, why := explore.First(p, 9); !slices.Equal(l, []int{0, 0, 0}) || why != api.OK {
		t.Error(l, why)
	}
	if l, why := explore.Next(p, nil, 9); !slices.Equal(l, []int{0, 1, 0}) || why != api.OK {
		t.Error(l, why)
	}
	if l, why := explore.Next(p, []int{0, 1}, 9); len(l) > 0 || why != api.ErrNone {
		t.Error(l, why)
	}
}

// TestADefault is the document's seventh example: a sweep finds a run in which there is a race, not the first one.
func TestADefault(t *testing.T) {
	for _, x := range samples.All() {
		if x.Name != "default" {
			continue
		}
		s, _ := explore.Sweep(x.Prog, 30, 300)
		if !s.Whole || s.Racy == 0 || s.Racy == s.Runs {
			t.Error(s)
		}
		l, why := explore.Find(x.Prog, 30, 300)
		if why != api.OK {
			t.Fatal(why)
		}
		if _, is := racy(t, x.Prog, l, 30); !is {
			t.Error(l)
		}
	}
}

// TestAnyPicks: what makes a run need not be its own picks; the next one is the same.
func TestAnyPicks(t *testing.T) {
	for n := range 150 {
		p := samples.Made(n)
		for k := range 6 {
			picks := samples.Picks(n+k, 5*k)
			if k == 5 {
				picks = []int{math.MinInt, math.MaxInt, math.MinInt, -1, -2, -3}
			}
			r, _ := run.Run(p, picks, 12)
			own, _ := run.Replay(p, r.Choices)
			before := slices.Clone(picks)
			a, why := explore.Next(p, picks, 12)
			b, want := explore.Next(p, own, 12)
			if !slices.Equal(a, b) || why != want || why == api.OK && slices.Compare(own, a) >= 0 {
				t.Fatal(n, k, a, b, why, want)
			}
			if !slices.Equal(before, picks) {
				t.Fatal("changed", n)
			}
		}
	}
}

// TestTooMany: runs that have too many goroutines are counted, but not as ones with a race.
func TestTooMany(t *testing.T) {
	p := samples.Of(api.Prog{Vars: 1}, "go 1; write 0; jump 0", "write 0")
	s, why := explore.Sweep(p, 60, 50)
	if why != api.OK || s.Ends[api.SLimit] != 50 || s.Racy != 0 || s.Whole {
		t.Error(s, why)
	}
	if l, why := explore.Find(p, 60, 50); len(l) > 0 || why != api.ErrNone {
		t.Error(l, why)
	}
	if s, _ := explore.Sweep(p, 3, 300); s.Racy == 0 || s.Ends[api.SFuel] != s.Runs {
		t.Error(s)
	}
}

// TestTheFirstStep: it may be chosen, too, by a select.
func TestTheFirstStep(t *testing.T) {
	p := api.Prog{Caps: []int{1, 1, 0}, Selects: []api.Select{{Cases: []api.Case{{Send: true}, {Chan: 2}, {Send: true, Chan: 1}}}}}
	p = samples.Of(p, "select 0; select 0")
	if s := check(t, p, 5, 300); s.Runs != 2 || !s.Whole {
		t.Error(s)
	}
	p.Caps = []int{2, 2, 0}
	if s := check(t, p, 5, 300); s.Runs != 4 || !s.Whole {
		t.Error(s)
	}
}

func TestNothingToDo(t *testing.T) {
	p := samples.Of(api.Prog{}, "")
	if l, why := explore.First(p, 1); len(l) > 0 || why != api.OK {
		t.Error(l, why)
	}
	if l, why := explore.Next(p, []int{3}, 1); len(l) > 0 || why != api.ErrNone {
		t.Error(l, why)
	}
	want := api.Sweep{Runs: 1, Whole: true}
	want.Ends[api.SDone] = 1
	if s, why := explore.Sweep(p, 1, 1); s != want || why != api.OK {
		t.Error(s, why)
	}
}

func TestWrongArguments(t *testing.T) {
	good := samples.Of(api.Prog{Vars: 1}, "go 1; write 0", "write 0")
	for _, x := range []struct {
		p          api.Prog
		fuel, most int
		why        api.Errno
	}{
		{api.Prog{}, 1, 1, api.ErrArg},
		{api.Prog{}, 0, 0, api.ErrArg},
		{good, 0, 1, api.ErrSize},
		{good, 401, 1, api.ErrSize},
		{good, math.MinInt, 1, api.ErrSize},
		{good, 400, 0, api.ErrSize},
		{good, 400, 301, api.ErrSize},
		{good, 1, math.MinInt, api.ErrSize},
		{good, 1, math.MaxInt, api.ErrSize},
	} {
		if s, why := explore.Sweep(x.p, x.fuel, x.most); s != (api.Sweep{}) || why != x.why {
			t.Error(x.fuel, x.most, s, why)
		}
		if l, why := explore.Find(x.p, x.fuel, x.most); len(l) > 0 || why != x.why {
			t.Error(x.fuel, x.most, l, why)
		}
		if x.fuel > 0 && x.fuel <= 400 && x.why == api.ErrSize {
			continue
		}
		if l, why := explore.First(x.p, x.fuel); len(l) > 0 || why != x.why {
			t.Error(x.fuel, l, why)
		}
		if l, why := explore.Next(x.p, nil, x.fuel); len(l) > 0 || why != x.why {
			t.Error(x.fuel, l, why)
		}
	}
}

func BenchmarkSweep(b *testing.B) {
	p := samples.Of(api.Prog{Caps: []int{0, 1, 2, 3}, Vars: 1, Mutexes: 1, Selects: []api.Select{{Cases: []api.Case{{Chan: 0}, {Chan: 1}, {Chan: 2, Send: true}, {Chan: 3}}}}},
		"go 1; go 1; go 1; go 1; go 1; go 1; go 1; select 0; jump 7", "send 0; write 0; lock 0; read 0; unlock 0; recv 2; jump 0")
	for b.Loop() {
		explore.Sweep(p, 400, 300)
	}
}
