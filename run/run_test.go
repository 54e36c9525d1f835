package run_test

import (
	"fmt"
	"math"
	"reflect"
	"slices"
	"testing"

	"plait/api"
	"plait/machine"
	"plait/run"
	"plait/samples"
)

var two = samples.Of(api.Prog{Caps: []int{0}}, "go 1; recv 0", "send 0")

func TestExample(t *testing.T) {
	r, why := run.Run(two, nil, 9)
	want := []api.Choice{{G: 0, Case: -1}, {G: 0, Case: -1}, {G: 1, Case: -1}}
	if why != api.OK || r.Status != api.SDone || len(r.Events) != 7 || !slices.Equal(r.Choices, want) {
		t.Error(r, why)
	}
	if l, why := run.Widths(two, nil, 9); !slices.Equal(l, []int{1, 2, 1}) || why != api.OK {
		t.Error(l, why)
	}
}

// slow is a run made by the document's words, with great care and no hurry.
func slow(p api.Prog, picks []int, fuel int) (api.Result, []int) {
	w, events, _ := machine.New(p)
	r := api.Result{Events: events}
	var widths []int
	for w.Status == api.SRun && len(r.Choices) < fuel {
		l := machine.Choices(w)
		pick := 0
		if len(r.Choices) < len(picks) {
			pick = picks[len(r.Choices)]
		}
		at := 0
		for k := range l {
			if (pick-k)%len(l) == 0 {
				at = k
			}
		}
		next, news, _ := machine.Step(w, l[at])
		w = next
		r.Events = append(r.Events, news...)
		r.Choices = append(r.Choices, l[at])
		widths = append(widths, len(l))
	}
	r.Status = w.Status
	if r.Status == api.SRun {
		r.Status = api.SFuel
	}
	return r, widths
}

func same(a, b api.Result) bool {
	return a.Status == b.Status && slices.Equal(a.Events, b.Events) && slices.Equal(a.Choices, b.Choices)
}

func TestRuns(t *testing.T) {
	for n := range 200 {
		p := samples.Made(n)
		for _, fuel := range []int{1, 2, 7, 60, 400} {
			for _, picks := range [][]int{nil, {1}, samples.Picks(n, 30), samples.Picks(n+1, 500)} {
				before := slices.Clone(picks)
				want, widths := slow(p, picks, fuel)
				got, why := run.Run(p, picks, fuel)
				if why != api.OK || !same(got, want) {
					t.Fatal(n, fuel, picks, got, want, why)
				}
				l, why := run.Widths(p, picks, fuel)
				if why != api.OK || !slices.Equal(l, widths) {
					t.Fatal(n, fuel, picks, l, widths, why)
				}
				if !slices.Equal(before, picks) {
					t.Fatal("changed", n)
				}
			}
		}
	}
}

// TestReplay is P13.3, and P2: the picks that are replayed are the least ones, and make the same run.
func TestReplay(t *testing.T) {
	for n := range 200 {
		p := samples.Made(n)
		picks := samples.Picks(n, 80)
		r, _ := run.Run(p, picks, 60)
		widths, _ := run.Widths(p, picks, 60)
		least, why := run.Replay(p, r.Choices)
		if why != api.OK || len(least) != len(r.Choices) {
			t.Fatal(n, least, why)
		}
		for i, pick := range least {
			if pick < 0 || pick >= widths[i] || (picks[i]-pick)%widths[i] != 0 {
				t.Fatal(n, i, pick, picks[i], widths[i])
			}
		}
		again, _ := run.Run(p, least, 60)
		if !same(r, again) {
			t.Fatal(n)
		}
		more, _ := run.Run(p, append(slices.Clone(least), 5, 5, 5), 60)
		if r.Status != api.SFuel && !same(r, more) {
			t.Fatal("more picks", n)
		}
		for fuel := 1; fuel < len(r.Choices); fuel++ {
			less, _ := run.Run(p, picks, fuel)
			if less.Status != api.SFuel || !slices.Equal(less.Choices, r.Choices[:fuel]) || !slices.Equal(less.Events, r.Events[:len(less.Events)]) {
				t.Fatal("less fuel", n, fuel)
			}
			if l, why := run.Replay(p, r.Choices[:fuel]); !slices.Equal(l, least[:fuel]) || why != api.OK {
				t.Fatal("some choices", n, fuel, l, why)
			}
		}
	}
}

func TestReplayWrong(t *testing.T) {
	zero, one := api.Choice{G: 0, Case: -1}, api.Choice{G: 1, Case: -1}
	loop := samples.Of(api.Prog{}, "jump 0")
	for _, x := range []struct {
		name string
		p    api.Prog
		l    []api.Choice
		want []int
		why  api.Errno
	}{
		{"none", two, nil, nil, api.OK},
		{"not right", api.Prog{}, make([]api.Choice, 500), nil, api.ErrArg},
		{"too many", loop, slices.Repeat([]api.Choice{zero}, 401), nil, api.ErrSize},
		{"too many, and wrong", two, slices.Repeat([]api.Choice{one}, 401), nil, api.ErrSize},
		{"just not too many", loop, slices.Repeat([]api.Choice{zero}, 400), make([]int, 400), api.OK},
		{"not yet", two, []api.Choice{one}, nil, api.ErrNone},
		{"by a case", two, []api.Choice{{G: 0, Case: 0}}, nil, api.ErrNone},
		{"wrong at last", two, []api.Choice{zero, zero, zero}, nil, api.ErrNone},
		{"when it is over", two, []api.Choice{zero, zero, one, one}, nil, api.ErrNone},
		{"the second", two, []api.Choice{zero, one, zero}, []int{0, 1, 0}, api.OK},
		{"nothing to do", samples.Of(api.Prog{}, ""), []api.Choice{zero}, nil, api.ErrNone},
		{"nothing done", samples.Of(api.Prog{}, ""), nil, nil, api.OK},
	} {
		if l, why := run.Replay(x.p, x.l); !slices.Equal(l, x.want) || why != x.why {
			t.Error(x.name, l, why)
		}
	}
}

func TestWrongArguments(t *testing.T) {
	for _, x := range []struct {
		p    api.Prog
		fuel int
		why  api.Errno
	}{
		{api.Prog{}, 1, api.ErrArg},
		{api.Prog{}, 0, api.ErrArg},
		{two, 0, api.ErrSize},
		{two, 401, api.ErrSize},
		{two, -1, api.ErrSize},
		{two, math.MinInt, api.ErrSize},
		{two, math.MaxInt, api.ErrSize},
	} {
		if r, why := run.Run(x.p, nil, x.fuel); !reflect.DeepEqual(r, api.Result{}) || why != x.why {
			t.Error(x.fuel, r, why)
		}
		if l, why := run.Widths(x.p, nil, x.fuel); len(l) > 0 || why != x.why {
			t.Error(x.fuel, l, why)
		}
	}
}

func TestFuelAndPicks(t *testing.T) {
	r, why := run.Run(two, []int{math.MinInt, math.MinInt, math.MaxInt}, 400)
	if why != api.OK || r.Status != api.SDone || fmt.Sprint(r.Choices) != "[{0 -1} {0 -1} {1 -1}]" {
		t.Error(r, why)
	}
	r, _ = run.Run(two, []int{7, -1}, 400)
	if fmt.Sprint(r.Choices) != "[{0 -1} {1 -1} {0 -1}]" {
		t.Error(r)
	}
	for fuel, status := range map[int]int{1: api.SFuel, 2: api.SFuel, 3: api.SDone, 4: api.SDone} {
		if r, _ := run.Run(two, nil, fuel); r.Status != status || len(r.Choices) != min(fuel, 3) {
			t.Error(fuel, r)
		}
	}
	r, _ = run.Run(samples.Of(api.Prog{}, "jump 0"), nil, 400)
	if r.Status != api.SFuel || len(r.Choices) != 400 || len(r.Events) != 1 {
		t.Error(r)
	}
	r, _ = run.Run(samples.Of(api.Prog{}, ""), nil, 1)
	if r.Status != api.SDone || len(r.Choices) != 0 || len(r.Events) != 1 {
		t.Error(r)
	}
}

func BenchmarkRun(b *testing.B) {
	p := samples.Of(api.Prog{Caps: []int{0, 1, 2, 3}, Vars: 1, Mutexes: 1, Selects: []api.Select{{Cases: []api.Case{{Chan: 0}, {Chan: 1}, {Chan: 2, Send: true}, {Chan: 3}}}}},
		"go 1; go 1; go 1; go 1; go 1; go 1; go 1; select 0; jump 7", "send 0; write 0; lock 0; read 0; unlock 0; recv 2; jump 0")
	picks := samples.Picks(1, 400)
	for b.Loop() {
		run.Run(p, picks, 400)
	}
}
