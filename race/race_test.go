package race_test

import (
	"math"
	"slices"
	"testing"

	"plait/api"
	"plait/order"
	"plait/race"
	"plait/run"
	"plait/samples"
	"plait/trace"
)

// isApart tells of each two events whether they are.
func isApart(t *testing.T, caps []int, l []api.Event) [][]bool {
	all := make([][]bool, len(l))
	for j := range l {
		past, why := order.Past(caps, l, j)
		if why != api.OK {
			t.Fatal(why)
		}
		all[j] = make([]bool, len(l))
		for i := range j {
			all[j][i] = !slices.Contains(past, i)
			all[i][j] = all[j][i]
		}
	}
	return all
}

func accesses(e api.Event) bool { return e.Kind == api.ERead || e.Kind == api.EWrite }

// asked is the race of events, word by word as the document has it.
func asked(l []api.Event, races func(i, j int) bool) (api.Race, api.Errno) {
	for later := range l {
		any := false
		for k := range later {
			any = any || races(k, later)
		}
		if !any {
			continue
		}
		v := l[later].Obj
		for k := later - 1; k >= 0; k-- {
			if l[k].Kind == api.EWrite && l[k].Obj == v {
				if races(k, later) {
					return api.Race{Later: later, Earlier: k, Var: v}, api.OK
				}
				break
			}
		}
		for g := range 8 {
			for k := later - 1; k >= 0; k-- {
				if l[k].Kind == api.ERead && l[k].Obj == v && l[k].G == g {
					if races(k, later) {
						return api.Race{Later: later, Earlier: k, Var: v}, api.OK
					}
					break
				}
			}
		}
		return api.Race{}, api.ErrState // whoever races has a race: this is never come to
	}
	return api.Race{}, api.ErrNone
}

// check holds all calls against the document's words; it answers whether there is a race.
func check(t *testing.T, caps []int, l []api.Event) bool {
	t.Helper()
	apart := isApart(t, caps, l)
	races := func(i, j int) bool {
		return accesses(l[i]) && accesses(l[j]) && l[i].Obj == l[j].Obj && (l[i].Kind == api.EWrite || l[j].Kind == api.EWrite) && apart[i][j]
	}
	var racy []int
	for v := range 4 {
		is := false
		for i := range l {
			for j := range l {
				is = is || l[i].Obj == v && races(i, j)
				if (i+j)%17 == 0 {
					if got, why := race.Races(caps, l, i, j); got != races(i, j) || why != api.OK {
						t.Fatal("races", i, j, got, why)
					}
				}
				if races(i, j) && l[i].G == l[j].G {
					t.Fatal("one goroutine", i, j)
				}
			}
		}
		if is {
			racy = append(racy, v)
		}
	}
	if got, why := race.Racy(caps, l); !slices.Equal(got, racy) || why != api.OK {
		t.Fatal("racy", got, racy, why)
	}
	want, none := asked(l, races)
	if got, why := race.Find(caps, l); got != want || why != none {
		t.Fatal("find", got, why, want, none)
	}
	if none == api.OK {
		if _, why := race.Find(caps, l[:want.Later]); why != api.ErrNone {
			t.Fatal("up to the later one none does", why)
		}
		if _, why := race.Find(caps, l[:want.Later+1]); why != api.OK {
			t.Fatal("and up to it one does", why)
		}
	}
	return none == api.OK
}

func TestRuns(t *testing.T) {
	var is [2]int
	for n := range 250 {
		p := samples.Made(n)
		r, _ := run.Run(p, samples.Picks(n, 30), 40)
		l := r.Events
		if check(t, p.Caps, l) {
			is[1]++
		} else {
			is[0]++
		}
		if n%5 > 0 {
			continue
		}
		for i := 1; i < len(l); i += 4 {
			m := slices.Clone(l)
			m[i], m[i-1] = m[i-1], m[i]
			if wrong, _ := trace.Wrong(p.Caps, m); wrong == -1 {
				check(t, p.Caps, m)
			}
		}
	}
	if is[0] < 40 || is[1] < 40 {
		t.Error("too few", is)
	}
}

// TestExamples are those of the document's ten that tell of races in each run.
func TestExamples(t *testing.T) {
	for _, s := range samples.All() {
		races, quiet := 0, 0
		for n := range 40 {
			r, _ := run.Run(s.Prog, samples.Picks(n, 60), 50)
			if check(t, s.Prog.Caps, r.Events) {
				races++
			} else {
				quiet++
			}
		}
		switch s.Name {
		case "two writes", "received with room":
			if quiet > 0 {
				t.Error(s.Name, quiet)
			}
		case "sent without room", "sent with room", "received without room", "closed", "locked", "once":
			if races > 0 {
				t.Error(s.Name, races)
			}
		case "default":
			if races == 0 || quiet == 0 {
				t.Error(s.Name, races, quiet)
			}
		}
	}
}

func find(t *testing.T, p api.Prog, picks ...int) (api.Race, api.Errno) {
	t.Helper()
	r, why := run.Run(p, picks, 50)
	if why != api.OK {
		t.Fatal(why)
	}
	return race.Find(p.Caps, r.Events)
}

func TestExample(t *testing.T) {
	if x, why := find(t, samples.Of(api.Prog{Vars: 1}, "go 1; write 0", "write 0")); x != (api.Race{Later: 4, Earlier: 3}) || why != api.OK {
		t.Error(x, why)
	}
	if x, why := find(t, samples.Of(api.Prog{Vars: 1, Caps: []int{0}}, "go 1; recv 0; write 0", "write 0; send 0")); x != (api.Race{}) || why != api.ErrNone {
		t.Error(x, why)
	}
}

// TestWhichIsEarlier: the last write, if that races; else the last read of the least goroutine that does.
func TestWhichIsEarlier(t *testing.T) {
	two := api.Prog{Vars: 4}
	// 0 go 1, 2; 1 reads twice, 2 reads, 0 writes: the last read of goroutine 1
	p := samples.Of(two, "go 1; go 2; write 3", "read 3; read 3", "read 3")
	if x, why := find(t, p, 0, 0, 2, 1, 1, 0); x != (api.Race{Later: 8, Earlier: 7, Var: 3}) || why != api.OK {
		t.Error(x, why)
	}
	// the write of goroutine 2 is ahead of the reads of goroutine 1, though those are of less
	p = samples.Of(api.Prog{Vars: 1, Caps: []int{1}}, "go 1; go 2; write 0", "read 0; send 0", "recv 0; write 0")
	if x, why := find(t, p, 0, 0, 1, 1, 1, 1, 0); x != (api.Race{Later: 11, Earlier: 10}) || why != api.OK {
		t.Error(x, why)
	}
	// reads alone do not race
	p = samples.Of(two, "go 1; read 0; read 1", "read 0; read 1")
	if x, why := find(t, p); x != (api.Race{}) || why != api.ErrNone {
		t.Error(x, why)
	}
	// nor do those of two variables
	p = samples.Of(two, "go 1; write 0; write 1", "write 2; write 3")
	if x, why := find(t, p); x != (api.Race{}) || why != api.ErrNone {
		t.Error(x, why)
	}
}

func TestWrongArguments(t *testing.T) {
	good := []api.Event{{Start: -1}, {Kind: api.EWrite, Start: -1}}
	wrong := append(slices.Clone(good), api.Event{G: 1, Kind: api.ERead, Start: -1})
	for i, x := range []struct {
		caps []int
		l    []api.Event
	}{{[]int{4}, good}, {[]int{-2}, nil}, {make([]int, 5), nil}, {nil, wrong}, {nil, make([]api.Event, 1)}} {
		if f, why := race.Find(x.caps, x.l); f != (api.Race{}) || why != api.ErrArg {
			t.Error(i, f, why)
		}
		if l, why := race.Racy(x.caps, x.l); len(l) > 0 || why != api.ErrArg {
			t.Error(i, l, why)
		}
		for _, k := range []int{-1, 0, 9} {
			if is, why := race.Races(x.caps, x.l, k, 0); is || why != api.ErrArg {
				t.Error(i, k, is, why)
			}
		}
	}
	for _, k := range []int{-1, 2, math.MinInt, math.MaxInt} {
		if is, why := race.Races(nil, good, k, 0); is || why != api.ErrRange {
			t.Error(k, is, why)
		}
		if is, why := race.Races(nil, good, 0, k); is || why != api.ErrRange {
			t.Error(k, is, why)
		}
	}
	if f, why := race.Find(nil, nil); f != (api.Race{}) || why != api.ErrNone {
		t.Error(f, why)
	}
	if is, why := race.Races(nil, good, 1, 1); is || why != api.OK {
		t.Error(is, why)
	}
	if l, why := race.Racy(nil, good); len(l) > 0 || why != api.OK {
		t.Error(l, why)
	}
}
