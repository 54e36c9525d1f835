package stamp_test

import (
	"math"
	"slices"
	"testing"

	"plait/api"
	"plait/edges"
	"plait/run"
	"plait/samples"
	"plait/stamp"
	"plait/trace"
)

// asked is the clock of each event: how many events of each goroutine lead to it by edges, and itself.
func asked(t *testing.T, caps []int, l []api.Event) [][]int {
	rows, why := edges.All(caps, l)
	if why != api.OK {
		t.Fatal(why)
	}
	past := make([][]bool, len(l))
	clocks := make([][]int, len(l))
	for j, row := range rows {
		past[j] = make([]bool, len(l))
		past[j][j] = true
		for _, k := range row {
			for i := range k + 1 {
				past[j][i] = past[j][i] || past[k][i]
			}
		}
		c := make([]int, 16)
		for i, yes := range past[j] {
			if yes {
				c[l[i].G]++
			}
		}
		for len(c) > 0 && c[len(c)-1] == 0 {
			c = c[:len(c)-1]
		}
		clocks[j] = c
	}
	return clocks
}

func check(t *testing.T, caps []int, l []api.Event) {
	t.Helper()
	want := asked(t, caps, l)
	all, why := stamp.All(caps, l)
	if why != api.OK || len(all) != len(l) {
		t.Fatal(all, why)
	}
	count := make([]int, 8)
	gors := 0
	for i, e := range l {
		count[e.G]++
		gors = max(gors, e.G+1)
		if !slices.Equal(all[i], want[i]) || all[i][e.G] != count[e.G] {
			t.Fatal(i, all[i], want[i])
		}
		if i%9 == 0 {
			if c, why := stamp.Of(caps, l, i); !slices.Equal(c, want[i]) || why != api.OK {
				t.Fatal(i, c, want[i], why)
			}
		}
	}
	for _, c := range all {
		if len(c) > gors {
			t.Fatal(c, gors)
		}
		for g, n := range c {
			if n > count[g] {
				t.Fatal(c, count)
			}
		}
	}
	if c, why := stamp.Final(caps, l); !slices.Equal(c, count[:gors]) || why != api.OK {
		t.Fatal(c, count, why)
	}
}

func TestRuns(t *testing.T) {
	near := 0
	for n := range 200 {
		p := samples.Made(n)
		r, _ := run.Run(p, samples.Picks(n, 80), 80)
		check(t, p.Caps, r.Events)
		for i := 1; i < len(r.Events) && i < 30; i++ {
			m := slices.Clone(r.Events)
			m[i], m[i-1] = m[i-1], m[i]
			if wrong, _ := trace.Wrong(p.Caps, m); wrong == -1 {
				near++
				check(t, p.Caps, m)
			}
		}
	}
	if near < 50 {
		t.Error("too few", near)
	}
	for _, s := range samples.All() {
		r, _ := run.Run(s.Prog, nil, 60)
		check(t, s.Prog.Caps, r.Events)
	}
}

func TestExample(t *testing.T) {
	p := samples.Of(api.Prog{Caps: []int{0}}, "go 1; recv 0", "send 0")
	r, _ := run.Run(p, nil, 9)
	all, why := stamp.All(p.Caps, r.Events)
	if why != api.OK || !slices.Equal(all[0], []int{1}) || !slices.Equal(all[2], []int{2, 1}) || !slices.Equal(all[5], []int{4, 2}) {
		t.Error(all, why)
	}
	if c, why := stamp.Final(p.Caps, r.Events); !slices.Equal(c, []int{4, 3}) || why != api.OK {
		t.Error(c, why)
	}
}

func TestNothing(t *testing.T) {
	if all, why := stamp.All(nil, nil); len(all) > 0 || why != api.OK {
		t.Error(all, why)
	}
	if c, why := stamp.Final([]int{3}, nil); len(c) > 0 || why != api.OK {
		t.Error(c, why)
	}
	if c, why := stamp.Of(nil, nil, 0); len(c) > 0 || why != api.ErrRange {
		t.Error(c, why)
	}
}

func TestWrongArguments(t *testing.T) {
	good := []api.Event{{Start: -1}, {Kind: api.ERead, Start: -1}}
	wrong := append(slices.Clone(good), api.Event{G: 1, Kind: api.ERead, Start: -1})
	for i, x := range []struct {
		caps []int
		l    []api.Event
	}{{[]int{4}, good}, {[]int{-2}, nil}, {make([]int, 5), nil}, {nil, wrong}, {nil, make([]api.Event, 1)}} {
		if all, why := stamp.All(x.caps, x.l); len(all) > 0 || why != api.ErrArg {
			t.Error(i, all, why)
		}
		if c, why := stamp.Final(x.caps, x.l); len(c) > 0 || why != api.ErrArg {
			t.Error(i, c, why)
		}
		for _, k := range []int{-1, 0, 9} {
			if c, why := stamp.Of(x.caps, x.l, k); len(c) > 0 || why != api.ErrArg {
				t.Error(i, k, c, why)
			}
		}
	}
	for _, k := range []int{-1, 2, math.MinInt, math.MaxInt} {
		if c, why := stamp.Of(nil, good, k); len(c) > 0 || why != api.ErrRange {
			t.Error(k, c, why)
		}
	}
}

func TestListsAreApart(t *testing.T) {
	l := []api.Event{{Start: -1}, {Kind: api.ERead, Start: -1}, {Kind: api.ERead, Start: -1}}
	all, _ := stamp.All(nil, l)
	_ = append(all[0], 9, 9, 9)
	all[0][0] = 70
	if all[1][0] != 2 || all[2][0] != 3 {
		t.Error(all)
	}
}
