package edges_test

import (
	"math"
	"slices"
	"testing"

	"plait/api"
	"plait/edges"
	"plait/run"
	"plait/samples"
	"plait/trace"
)

// asked are the edges of event i, word by word as the document has them.
func asked(caps []int, l []api.Event, i int) []int {
	is := make([]bool, i)
	add := func(k int) {
		if k >= 0 && k < i {
			is[k] = true
		}
	}
	e := l[i]
	for k := i - 1; k >= 0; k-- {
		if l[k].G == e.G {
			add(k)
			break
		}
	}
	for k, x := range l {
		switch {
		case e.Kind == api.EBegin && k == e.Start,
			e.Kind == api.ENone && x.Kind == api.EClose && x.Obj == e.Obj,
			e.Kind == api.ELocked && x.Kind == api.EUnlock && x.Obj == e.Obj,
			e.Kind == api.ESkip && x.Kind == api.EEnd && x.Obj == e.Obj:
			add(k)
		case e.Kind == api.EGot && x.Kind == api.ESent && x.Obj == e.Obj && x.No == e.No,
			e.Kind == api.ESent && x.Kind == api.EGot && x.Obj == e.Obj && x.No == e.No-caps[e.Obj]:
			add(x.Start)
		}
	}
	var all []int
	for k, yes := range is {
		if yes {
			all = append(all, k)
		}
	}
	return all
}

func check(t *testing.T, caps []int, l []api.Event) {
	t.Helper()
	all, why := edges.All(caps, l)
	if why != api.OK || len(all) != len(l) {
		t.Fatal(all, why)
	}
	for i := range l {
		want := asked(caps, l, i)
		if !slices.Equal(all[i], want) {
			t.Fatal(i, all[i], want, l)
		}
		if i%7 == 0 {
			if one, why := edges.Of(caps, l, i); !slices.Equal(one, want) || why != api.OK {
				t.Fatal(i, one, want, why)
			}
		}
		if len(all[i]) > 0 != (i > 0) {
			t.Fatal("an event has an edge, but the first one", i, all[i])
		}
	}
}

func made(n, fuel int) ([]int, []api.Event) {
	p := samples.Made(n)
	r, _ := run.Run(p, samples.Picks(n, fuel), fuel)
	return p.Caps, r.Events
}

func TestRuns(t *testing.T) {
	for n := range 300 {
		caps, l := made(n, 100)
		check(t, caps, l)
		all, _ := edges.All(caps, l)
		for i, e := range l {
			if e.Kind != api.EGot {
				continue
			}
			for _, x := range l {
				if x.Kind == api.ESent && x.Obj == e.Obj && x.No == e.No && !slices.Contains(all[i], x.Start) {
					t.Fatal("a value that is got has an edge to where its send began", n, i)
				}
			}
		}
	}
	for _, s := range samples.All() {
		for k := range 10 {
			r, _ := run.Run(s.Prog, samples.Picks(k, 99), 60)
			check(t, s.Prog.Caps, r.Events)
		}
	}
}

// TestNearRuns are events that are not wrong, and no run's.
func TestNearRuns(t *testing.T) {
	n := 0
	for k := range 300 {
		caps, l := made(k, 40)
		for i := 1; i < len(l); i++ {
			m := slices.Clone(l)
			m[i], m[i-1] = m[i-1], m[i]
			if wrong, _ := trace.Wrong(caps, m); wrong == -1 {
				check(t, caps, m)
				n++
			}
		}
		check(t, caps, l[:len(l)/2])
	}
	if n < 100 {
		t.Error("too few", n)
	}
}

var example = []api.Event{
	{G: 0, Kind: api.EBegin, Start: -1},
	{G: 0, Kind: api.EGo, Obj: 1, Start: -1},
	{G: 1, Kind: api.EBegin, Start: 1},
	{G: 0, Kind: api.ERecv, Start: -1},
	{G: 1, Kind: api.ESend, Start: -1},
	{G: 0, Kind: api.EGot, Start: 3},
	{G: 1, Kind: api.ESent, Start: 4},
}

func TestExample(t *testing.T) {
	want := [][]int{nil, {0}, {1}, {1}, {2}, {3, 4}, {3, 4}}
	for i := range example {
		if l, why := edges.Of([]int{0}, example, i); !slices.Equal(l, want[i]) || why != api.OK {
			t.Error(i, l, why)
		}
	}
}

// TestNotAhead: what is waited for began behind the event, so it is no edge.
func TestNotAhead(t *testing.T) {
	l := []api.Event{
		{G: 0, Kind: api.EBegin, Start: -1},
		{G: 0, Kind: api.EGo, Obj: 1, Start: -1},
		{G: 1, Kind: api.EBegin, Start: 1},
		{G: 0, Kind: api.ESend, Start: -1},
		{G: 0, Kind: api.ESent, Start: 3},
		{G: 0, Kind: api.ESend, Start: -1},
		{G: 0, Kind: api.ESent, No: 1, Start: 5}, // at 6: the first value is got by what begins at 7
		{G: 1, Kind: api.ERecv, Start: -1},
		{G: 1, Kind: api.EGot, Start: 7},
	}
	check(t, []int{1}, l)
	if k, why := edges.Of([]int{1}, l, 6); !slices.Equal(k, []int{5}) || why != api.OK {
		t.Error(k, why)
	}
	if k, why := edges.Of([]int{1}, l, 8); !slices.Equal(k, []int{3, 7}) || why != api.OK {
		t.Error(k, why)
	}
}

func TestEachUnlock(t *testing.T) {
	p := samples.Of(api.Prog{Mutexes: 2}, "lock 0; unlock 0; lock 1; unlock 1; lock 0; unlock 0; lock 0")
	r, _ := run.Run(p, nil, 100)
	check(t, nil, r.Events)
	if k, _ := edges.Of(nil, r.Events, len(r.Events)-1); !slices.Equal(k, []int{3, 9, 10}) {
		t.Error(k, r.Events)
	}
}

func TestWrongArguments(t *testing.T) {
	wrong := append(slices.Clone(example), api.Event{G: 5, Kind: api.ERead, Start: -1})
	for i, x := range []struct {
		caps []int
		l    []api.Event
	}{{[]int{4}, example}, {[]int{0, 0, 0, 0, 0}, nil}, {[]int{-2}, nil}, {nil, example}, {[]int{0}, wrong}, {nil, make([]api.Event, 1)}} {
		if all, why := edges.All(x.caps, x.l); len(all) > 0 || why != api.ErrArg {
			t.Error(i, all, why)
		}
		for _, k := range []int{-1, 0, 99} {
			if l, why := edges.Of(x.caps, x.l, k); len(l) > 0 || why != api.ErrArg {
				t.Error(i, k, l, why)
			}
		}
	}
	for _, k := range []int{-1, 7, math.MinInt, math.MaxInt} {
		if l, why := edges.Of([]int{0}, example, k); len(l) > 0 || why != api.ErrRange {
			t.Error(k, l, why)
		}
	}
	if all, why := edges.All(nil, nil); len(all) > 0 || why != api.OK {
		t.Error(all, why)
	}
	if l, why := edges.Of(nil, nil, 0); len(l) > 0 || why != api.ErrRange {
		t.Error(l, why)
	}
}
