package trace_test

import (
	"math"
	"slices"
	"testing"

	"plait/api"
	"plait/run"
	"plait/samples"
	"plait/trace"
)

// oracle tells whether event i is wrong, word by word as the document does, without any hurry.
type oracle struct {
	caps []int
	l    []api.Event
	i    int
}

func (o oracle) count(kind, obj int) int {
	n := 0
	for _, e := range o.l[:o.i] {
		if e.Kind == kind && e.Obj == obj {
			n++
		}
	}
	return n
}

func (o oracle) last() int {
	for k := o.i - 1; k >= 0; k-- {
		if o.l[k].G == o.l[o.i].G {
			return k
		}
	}
	return -1
}

func among(k int, l ...int) bool { return slices.Contains(l, k) }

func (o oracle) wrong() bool {
	e, k := o.l[o.i], o.l[o.i].Kind
	if e.G < 0 || e.G > 7 || k < 0 || k > 17 || e.No < 0 || e.Start < -1 || e.Start >= o.i {
		return true
	}
	last := o.last()
	if k == api.EBegin {
		if last != -1 || e.Obj != 0 || e.No != 0 || e.G == 0 && e.Start != -1 {
			return true
		}
		if e.G > 0 && (e.Start == -1 || o.l[e.Start].Kind != api.EGo || o.l[e.Start].Obj != e.G) {
			return true
		}
	} else if last == -1 {
		return true
	}
	if k == api.EGo {
		n := 0
		for _, x := range o.l[:o.i] {
			if x.Kind == api.EBegin {
				n++
			}
		}
		if e.Obj != n {
			return true
		}
	}
	if among(k, api.EGo, api.ESend, api.ERecv, api.EClose, api.ESelect, api.ELock, api.EUnlock, api.EDo, api.EEnd, api.ERead, api.EWrite) && (e.Start != -1 || e.No != 0) {
		return true
	}
	if among(k, api.ENone, api.EDefault, api.ELocked, api.ESkip) && e.No != 0 {
		return true
	}
	ofChannel := among(k, api.ESend, api.ESent, api.ERecv, api.EGot, api.ENone, api.EClose)
	if ofChannel && (e.Obj < 0 || e.Obj >= len(o.caps)) {
		return true
	}
	if among(k, api.ESelect, api.EDefault, api.ERead, api.EWrite) && (e.Obj < 0 || e.Obj > 3) {
		return true
	}
	if among(k, api.ELock, api.ELocked, api.EUnlock, api.EDo, api.EEnd, api.ESkip) && e.Obj != 0 && e.Obj != 1 {
		return true
	}
	begun := map[int]int{api.ESent: api.ESend, api.EGot: api.ERecv, api.ENone: api.ERecv, api.EDefault: api.ESelect, api.ELocked: api.ELock, api.ESkip: api.EDo}
	if by, is := begun[k]; is {
		if e.Start != last {
			return true
		}
		x := o.l[last]
		byThat := x.Kind == by && x.Obj == e.Obj
		bySelect := among(k, api.ESent, api.EGot, api.ENone) && x.Kind == api.ESelect
		if !byThat && !bySelect {
			return true
		}
	}
	if among(k, api.ESent, api.EGot, api.ENone, api.EClose) && o.caps[e.Obj] == -1 {
		return true
	}
	sent, got, closed := o.count(api.ESent, e.Obj), o.count(api.EGot, e.Obj), o.count(api.EClose, e.Obj)
	locked, unlocked := o.count(api.ELocked, e.Obj), o.count(api.EUnlock, e.Obj)
	switch k {
	case api.ESent:
		return closed > 0 || e.No != sent || e.No > got+o.caps[e.Obj]
	case api.EGot:
		return e.No != got || e.No > sent
	case api.ENone:
		return closed == 0 || got != sent
	case api.EClose:
		return closed > 0
	case api.ELocked:
		return unlocked != locked
	case api.EUnlock:
		return locked != unlocked+1
	case api.EEnd:
		for _, x := range o.l[:o.i] {
			if x.Kind == api.EDo && x.Obj == e.Obj {
				return x.G != e.G || o.count(api.EEnd, e.Obj) > 0
			}
		}
		return true
	case api.ESkip:
		return o.count(api.EEnd, e.Obj) == 0
	}
	return false
}

// firstWrong is what trace.Wrong is to answer; ahead of from nothing is.
func firstWrong(caps []int, l []api.Event, from int) int {
	for i := from; i < len(l); i++ {
		if (oracle{caps, l, i}).wrong() {
			return i
		}
	}
	return -1
}

func events(n, fuel int) ([]int, []api.Event) {
	p := samples.Made(n)
	r, _ := run.Run(p, samples.Picks(n, fuel), fuel)
	return p.Caps, r.Events
}

// TestRuns is P14.3: the events of a run are not wrong, nor are the first ones.
func TestRuns(t *testing.T) {
	for n := range 300 {
		caps, l := events(n, 120)
		for k := range len(l) + 1 {
			if i, why := trace.Wrong(caps, l[:k]); i != -1 || why != api.OK {
				t.Fatal(n, k, i, why)
			}
		}
	}
	for _, s := range samples.All() {
		for k := range 20 {
			r, _ := run.Run(s.Prog, samples.Picks(k, 99), 100)
			if i, why := trace.Wrong(s.Prog.Caps, r.Events); i != -1 || why != api.OK {
				t.Fatal(s.Name, i, why)
			}
		}
	}
}

// changed are lists that are near to l at place i.
func changed(l []api.Event, i int) [][]api.Event {
	var all [][]api.Event
	add := func(change func(e *api.Event)) {
		m := slices.Clone(l)
		change(&m[i])
		all = append(all, m)
	}
	for v := -1; v < 19; v++ {
		add(func(e *api.Event) { e.Kind = v })
		if v < 9 {
			add(func(e *api.Event) { e.G = v })
			add(func(e *api.Event) { e.Obj = v })
			add(func(e *api.Event) { e.No = v })
		}
	}
	for v := -2; v <= i; v++ {
		add(func(e *api.Event) { e.Start = v })
	}
	all = append(all, slices.Delete(slices.Clone(l), i, i+1), slices.Insert(slices.Clone(l), i, l[i]))
	if i > 0 {
		m := slices.Clone(l)
		m[i], m[i-1] = m[i-1], m[i]
		all = append(all, m)
	}
	return all
}

// TestNearRuns holds Wrong against the document's words at events that are nearly a run's.
func TestNearRuns(t *testing.T) {
	var at [18]int
	for n := range 300 {
		caps, l := events(n, 24)
		for i := range l {
			for _, m := range changed(l, i) {
				want := firstWrong(caps, m, max(i-1, 0))
				got, why := trace.Wrong(caps, m)
				if got != want || why != api.OK {
					t.Fatal(n, i, got, want, why, caps, m)
				}
				if want >= 0 && m[want].Kind >= 0 && m[want].Kind < 18 {
					at[m[want].Kind]++
				}
			}
		}
		for k := range caps {
			other := slices.Clone(caps)
			for other[k] = -1; other[k] < 4; other[k]++ {
				if got, _ := trace.Wrong(other, l); got != firstWrong(other, l, 0) {
					t.Fatal(n, other, got)
				}
			}
		}
		if got, _ := trace.Wrong(caps[1:], l); got != firstWrong(caps[1:], l, 0) {
			t.Fatal(n, got)
		}
	}
	for kind, k := range at {
		if k < 20 {
			t.Error("hardly tried", kind, k)
		}
	}
}

func TestFarOff(t *testing.T) {
	begin := api.Event{Start: -1}
	for _, e := range []api.Event{
		{G: math.MinInt, Kind: api.ERead, Start: -1},
		{G: math.MaxInt, Kind: api.ERead, Start: -1},
		{Kind: math.MinInt, Start: -1},
		{Kind: math.MaxInt, Start: -1},
		{Kind: api.ERead, Obj: math.MinInt, Start: -1},
		{Kind: api.EGo, Obj: math.MaxInt, Start: -1},
		{Kind: api.ESent, Obj: math.MaxInt, Start: 0},
		{Kind: api.EGot, Start: math.MinInt},
		{Kind: api.EGot, Start: math.MaxInt},
		{Kind: api.EUnlock, Obj: math.MinInt, Start: -1},
		{Kind: api.ESend, Obj: -1, Start: -1},
		{Kind: api.ESelect, Obj: 4, Start: -1},
	} {
		if i, why := trace.Wrong([]int{0}, []api.Event{begin, e}); i != 1 || why != api.OK {
			t.Error(e, i, why)
		}
	}
	if i, why := trace.Wrong(nil, []api.Event{begin, {G: 1, Kind: api.ERead, Start: -1}}); i != 1 || why != api.OK {
		t.Error("the document's example", i, why)
	}
	if i, why := trace.Wrong(nil, nil); i != -1 || why != api.OK {
		t.Error(i, why)
	}
}

func TestCapacities(t *testing.T) {
	for _, caps := range [][]int{{4}, {-2}, {0, 0, 0, 0, 0}, {0, math.MaxInt}, {math.MinInt}} {
		for _, l := range [][]api.Event{nil, {{Kind: 99}}} {
			if i, why := trace.Wrong(caps, l); i != 0 || why != api.ErrArg {
				t.Error(caps, i, why)
			}
		}
	}
	if i, why := trace.Wrong([]int{-1, 0, 3, 1}, nil); i != -1 || why != api.OK {
		t.Error(i, why)
	}
}

func TestLastAndCount(t *testing.T) {
	for n := range 60 {
		_, l := events(n, 40)
		for i := range l {
			if k, why := trace.Last(l, i); k != (oracle{nil, l, i}).last() || why != api.OK {
				t.Fatal(n, i, k, why)
			}
			for kind := -1; kind < 19; kind++ {
				for obj := -1; obj < 3; obj++ {
					if k, why := trace.Count(l, i, kind, obj); k != (oracle{nil, l, i}).count(kind, obj) || why != api.OK {
						t.Fatal(n, i, kind, obj, k, why)
					}
				}
			}
		}
		for _, i := range []int{-1, len(l), math.MinInt, math.MaxInt} {
			if k, why := trace.Last(l, i); k != 0 || why != api.ErrRange {
				t.Error(i, k, why)
			}
			if k, why := trace.Count(l, i, 0, 0); k != 0 || why != api.ErrRange {
				t.Error(i, k, why)
			}
		}
	}
	strange := []api.Event{{G: -7, Kind: 99, Obj: -5}, {G: 50}, {G: -7, Kind: 99, Obj: -5}, {G: -7}}
	if k, why := trace.Last(strange, 2); k != 0 || why != api.OK {
		t.Error(k, why)
	}
	if k, why := trace.Last(strange, 1); k != -1 || why != api.OK {
		t.Error(k, why)
	}
	if k, why := trace.Count(strange, 3, 99, -5); k != 2 || why != api.OK {
		t.Error(k, why)
	}
	if k, why := trace.Count(nil, 0, 0, 0); k != 0 || why != api.ErrRange {
		t.Error(k, why)
	}
}
