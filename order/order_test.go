package order_test

import (
	"math"
	"slices"
	"testing"

	"plait/api"
	"plait/edges"
	"plait/epoch"
	"plait/order"
	"plait/run"
	"plait/samples"
	"plait/stamp"
	"plait/trace"
)

// reach tells of each two events whether a row of edges leads from j to i: reach[j][i].
func reach(t *testing.T, caps []int, l []api.Event) [][]bool {
	rows, why := edges.All(caps, l)
	if why != api.OK {
		t.Fatal(why)
	}
	all := make([][]bool, len(l))
	for j, row := range rows {
		all[j] = make([]bool, len(l))
		for _, k := range row {
			all[j][k] = true
			for i, yes := range all[k] {
				all[j][i] = all[j][i] || yes
			}
		}
	}
	return all
}

func check(t *testing.T, caps []int, l []api.Event) {
	t.Helper()
	is := reach(t, caps, l)
	clocks, _ := stamp.All(caps, l)
	var frontier []int
	for i := range l {
		none := true
		var past []int
		for j := range l {
			none = none && !is[j][i]
			if is[i][j] {
				past = append(past, j)
			}
			if j%3 != i%3 { // some of all pairs: it is slow
				continue
			}
			if b, why := order.Before(caps, l, i, j); b != is[j][i] || why != api.OK {
				t.Fatal("before", i, j, b, why)
			}
			if a, why := order.Apart(caps, l, i, j); a != (i != j && !is[j][i] && !is[i][j]) || why != api.OK {
				t.Fatal("apart", i, j, a, why)
			}
			e, _ := epoch.Pack(clocks[i][l[i].G], l[i].G)
			if known, _ := epoch.Known(e, clocks[j]); known != (is[j][i] || i == j) {
				t.Fatal("known", i, j, known)
			}
			if l[i].G == l[j].G && is[j][i] != (i < j) {
				t.Fatal("one goroutine", i, j)
			}
		}
		if none {
			frontier = append(frontier, i)
		}
		if p, why := order.Past(caps, l, i); !slices.Equal(p, past) || why != api.OK {
			t.Fatal("past", i, p, past, why)
		}
	}
	if f, why := order.Frontier(caps, l); !slices.Equal(f, frontier) || why != api.OK {
		t.Fatal("frontier", f, frontier, why)
	}
}

func TestRuns(t *testing.T) {
	near := 0
	for n := range 120 {
		p := samples.Made(n)
		r, _ := run.Run(p, samples.Picks(n, 30), 24)
		check(t, p.Caps, r.Events)
		for i := 1; i < len(r.Events); i += 5 {
			m := slices.Clone(r.Events)
			m[i], m[i-1] = m[i-1], m[i]
			if wrong, _ := trace.Wrong(p.Caps, m); wrong == -1 {
				near++
				check(t, p.Caps, m)
			}
		}
	}
	if near < 20 {
		t.Error("too few", near)
	}
	for _, s := range samples.All() {
		r, _ := run.Run(s.Prog, samples.Picks(3, 40), 30)
		check(t, s.Prog.Caps, r.Events)
	}
}

func TestExample(t *testing.T) {
	p := samples.Of(api.Prog{Caps: []int{0}}, "go 1; recv 0", "send 0")
	r, _ := run.Run(p, nil, 9)
	if is, why := order.Before(p.Caps, r.Events, 4, 5); !is || why != api.OK {
		t.Error(is, why)
	}
	if is, why := order.Apart(p.Caps, r.Events, 5, 6); !is || why != api.OK {
		t.Error(is, why)
	}
	if l, why := order.Frontier(p.Caps, r.Events); !slices.Equal(l, []int{5, 6}) || why != api.OK {
		t.Error(l, why)
	}
	if l, why := order.Past(p.Caps, r.Events, 5); !slices.Equal(l, []int{0, 1, 2, 3, 4}) || why != api.OK {
		t.Error(l, why)
	}
}

func TestNotWithItself(t *testing.T) {
	l := []api.Event{{Start: -1}, {Kind: api.ERead, Start: -1}}
	for i := range l {
		if is, why := order.Before(nil, l, i, i); is || why != api.OK {
			t.Error(is, why)
		}
		if is, why := order.Apart(nil, l, i, i); is || why != api.OK {
			t.Error(is, why)
		}
	}
	if l, why := order.Frontier(nil, nil); len(l) > 0 || why != api.OK {
		t.Error(l, why)
	}
}

func TestWrongArguments(t *testing.T) {
	good := []api.Event{{Start: -1}, {Kind: api.ERead, Start: -1}}
	wrong := append(slices.Clone(good), api.Event{G: 1, Kind: api.ERead, Start: -1})
	refused := func(caps []int, l []api.Event, i, j int, want api.Errno) {
		t.Helper()
		if is, why := order.Before(caps, l, i, j); is || why != want {
			t.Error("before", i, j, is, why)
		}
		if is, why := order.Apart(caps, l, i, j); is || why != want {
			t.Error("apart", i, j, is, why)
		}
	}
	for _, x := range []struct {
		caps []int
		l    []api.Event
	}{{[]int{4}, good}, {[]int{-2}, nil}, {make([]int, 5), nil}, {nil, wrong}, {nil, make([]api.Event, 1)}} {
		for _, i := range []int{-1, 0, 9} {
			refused(x.caps, x.l, i, 0, api.ErrArg)
			refused(x.caps, x.l, 0, i, api.ErrArg)
			if l, why := order.Past(x.caps, x.l, i); len(l) > 0 || why != api.ErrArg {
				t.Error(l, why)
			}
		}
		if l, why := order.Frontier(x.caps, x.l); len(l) > 0 || why != api.ErrArg {
			t.Error(l, why)
		}
	}
	for _, i := range []int{-1, 2, math.MinInt, math.MaxInt} {
		refused(nil, good, i, 0, api.ErrRange)
		refused(nil, good, 0, i, api.ErrRange)
		refused(nil, good, i, i, api.ErrRange)
		if l, why := order.Past(nil, good, i); len(l) > 0 || why != api.ErrRange {
			t.Error(l, why)
		}
	}
}
