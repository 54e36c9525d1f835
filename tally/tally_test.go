package tally_test

import (
	"slices"
	"testing"

	"plait/api"
	"plait/order"
	"plait/race"
	"plait/run"
	"plait/samples"
	"plait/tally"
	"plait/trace"
)

func accesses(e api.Event) bool { return e.Kind == api.ERead || e.Kind == api.EWrite }

// check holds all calls against the document's words; it answers how many pairs there are.
func check(t *testing.T, caps []int, l []api.Event) int {
	t.Helper()
	var pairs, singles []api.Pair
	all := 0
	apart := func(i, j int) bool {
		is, why := order.Apart(caps, l, i, j)
		if why != api.OK {
			t.Fatal(why)
		}
		return is
	}
	var isApart [200][200]bool
	var places []int
	for j, e := range l {
		if !accesses(e) {
			continue
		}
		for _, i := range places {
			isApart[i][j] = apart(i, j)
		}
		places = append(places, j)
	}
	for v := range 4 {
		for a := range 8 {
			n := 0
			for _, i := range places {
				if l[i].Obj == v && l[i].G == a {
					n++
				}
			}
			if n > 0 {
				singles = append(singles, api.Pair{Var: v, A: a, B: -1, Count: n})
			}
			for b := a + 1; b < 8; b++ {
				n := 0
				for _, j := range places {
					for _, i := range places {
						two := l[i].G == a && l[j].G == b || l[i].G == b && l[j].G == a
						if i < j && two && l[i].Obj == v && l[j].Obj == v && isApart[i][j] && (l[i].Kind == api.EWrite || l[j].Kind == api.EWrite) {
							n++
						}
					}
				}
				all += n
				if n > 0 {
					pairs = append(pairs, api.Pair{Var: v, A: a, B: b, Count: n})
				}
			}
		}
	}
	most := 0
	for k := range places {
		var set []int
		for _, j := range places[k:] {
			if !slices.ContainsFunc(set, func(i int) bool { return !isApart[i][j] }) {
				set = append(set, j)
			}
		}
		most = max(most, len(set))
	}
	if got, why := tally.Pairs(caps, l); !slices.Equal(got, pairs) || why != api.OK {
		t.Fatal("pairs", got, pairs, why)
	}
	if got, why := tally.Accesses(caps, l); !slices.Equal(got, singles) || why != api.OK {
		t.Fatal("accesses", got, singles, why)
	}
	if got, why := tally.Width(caps, l); got != most || why != api.OK {
		t.Fatal("width", got, most, why)
	}
	n := 0
	for j := range l {
		for i := range j {
			if accesses(l[i]) && accesses(l[j]) && l[i].Obj == l[j].Obj {
				if is, _ := race.Races(caps, l, i, j); is {
					n++
				}
			}
		}
	}
	_, why := race.Find(caps, l)
	if n != all || why == api.OK != (len(pairs) > 0) {
		t.Fatal("all pairs' counts together are how many two events race", n, all, why)
	}
	return len(pairs)
}

func TestRuns(t *testing.T) {
	pairs, none := 0, 0
	for n := range 200 {
		p := samples.Made(n)
		r, _ := run.Run(p, samples.Picks(n, 40), 36)
		l := r.Events
		if k := check(t, p.Caps, l); k > 0 {
			pairs += k
		} else {
			none++
		}
		if i := n%20 + 1; i < len(l) {
			l[i], l[i-1] = l[i-1], l[i]
			if wrong, _ := trace.Wrong(p.Caps, l); wrong == -1 {
				check(t, p.Caps, l)
			}
		}
	}
	if pairs < 50 || none < 30 {
		t.Error("too few", pairs, none)
	}
	for _, s := range samples.All() {
		r, _ := run.Run(s.Prog, samples.Picks(5, 40), 40)
		check(t, s.Prog.Caps, r.Events)
	}
}

func TestExample(t *testing.T) {
	p := samples.Of(api.Prog{Vars: 1}, "go 1; write 0", "write 0; write 0")
	for n := range 8 {
		r, _ := run.Run(p, samples.Picks(n, 9), 40)
		if l, why := tally.Pairs(nil, r.Events); !slices.Equal(l, []api.Pair{{B: 1, Count: 2}}) || why != api.OK {
			t.Error(l, why)
		}
		if l, why := tally.Accesses(nil, r.Events); !slices.Equal(l, []api.Pair{{B: -1, Count: 1}, {A: 1, B: -1, Count: 2}}) || why != api.OK {
			t.Error(l, why)
		}
		if k, why := tally.Width(nil, r.Events); k != 2 || why != api.OK {
			t.Error(k, why)
		}
	}
}

// TestWidth: reads count, and accesses of different variables; but not what is none of these.
func TestWidth(t *testing.T) {
	for _, x := range []struct {
		p    api.Prog
		want int
	}{
		{samples.Of(api.Prog{}, ""), 0},
		{samples.Of(api.Prog{Caps: []int{2}}, "go 1; send 0", "send 0"), 0},
		{samples.Of(api.Prog{Vars: 1}, "read 0; read 0"), 1},
		{samples.Of(api.Prog{Vars: 3}, "go 1; go 2; read 0", "write 1", "read 2"), 3},
		{samples.Of(api.Prog{Vars: 1, Caps: []int{0}}, "go 1; go 2; read 0; recv 0; read 0", "read 0", "read 0; send 0"), 3},
	} {
		r, _ := run.Run(x.p, nil, 60)
		if n, why := tally.Width(x.p.Caps, r.Events); n != x.want || why != api.OK {
			t.Error(n, x.want, why)
		}
		check(t, x.p.Caps, r.Events)
	}
}

func TestWrongArguments(t *testing.T) {
	good := []api.Event{{Start: -1}}
	wrong := append(slices.Clone(good), api.Event{G: 1, Kind: api.ERead, Start: -1})
	for i, x := range []struct {
		caps []int
		l    []api.Event
		why  api.Errno
	}{{[]int{4}, good, api.ErrArg}, {[]int{-2}, nil, api.ErrArg}, {make([]int, 5), nil, api.ErrArg}, {nil, wrong, api.ErrArg}, {nil, make([]api.Event, 1), api.ErrArg}, {nil, nil, api.OK}, {[]int{0}, good, api.OK}} {
		if l, why := tally.Pairs(x.caps, x.l); len(l) > 0 || why != x.why {
			t.Error(i, l, why)
		}
		if l, why := tally.Accesses(x.caps, x.l); len(l) > 0 || why != x.why {
			t.Error(i, l, why)
		}
		if n, why := tally.Width(x.caps, x.l); n != 0 || why != x.why {
			t.Error(i, n, why)
		}
	}
}

func BenchmarkPairs(b *testing.B) {
	p := samples.Of(api.Prog{Vars: 1, Mutexes: 1}, "go 1; go 1; write 0; lock 0; unlock 0; jump 2", "write 0; lock 0; unlock 0; jump 0")
	r, _ := run.Run(p, samples.Picks(1, 400), 400)
	for b.Loop() {
		tally.Pairs(nil, r.Events)
	}
}
