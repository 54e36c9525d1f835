package waits_test

import (
	"math"
	"slices"
	"testing"

	"plait/api"
	"plait/waits"
)

// many are n waits of different goroutines or cases.
func many(n int) []api.Wait {
	var l []api.Wait
	for i := range n {
		l = append(l, api.Wait{G: i % 5, Case: i / 5, Start: 7})
	}
	return l
}

var bad = [][]api.Wait{
	{{G: -1}},
	{{Case: -1}},
	{{Start: -1}},
	{{G: 1}, {G: 2, Start: math.MinInt}},
	{{G: 1, Case: 2, Start: 3}, {G: 2}, {G: 1, Case: 2, Start: 4}},
	many(65),
	slices.Repeat([]api.Wait{{G: 1}}, 65),
}

func TestRight(t *testing.T) {
	for _, l := range [][]api.Wait{nil, {}, {{}}, {{G: 1}, {G: 1, Case: 1}, {G: 2, Case: 1}}, {{G: 1, Start: 5}, {G: 2, Start: 5}}, {{G: math.MaxInt, Case: math.MaxInt, Start: math.MaxInt}}, many(64)} {
		if !waits.Right(l) {
			t.Error(l)
		}
	}
	for _, l := range bad {
		if waits.Right(l) {
			t.Error(l)
		}
	}
}

func TestWrongArguments(t *testing.T) {
	refused := func(l []api.Wait, w api.Wait, g int) {
		t.Helper()
		if r, why := waits.Push(l, w); len(r) != 0 || why != api.ErrArg {
			t.Error("push", l, w, r, why)
		}
		if f, why := waits.First(l, g); f != (api.Wait{}) || why != api.ErrArg {
			t.Error("first", l, g, f, why)
		}
		if r, why := waits.Drop(l, g); len(r) != 0 || why != api.ErrArg {
			t.Error("drop", l, g, r, why)
		}
	}
	for _, l := range bad {
		refused(l, api.Wait{G: 9, Case: 99}, 9)
		if r, why := waits.Who(l); len(r) != 0 || why != api.ErrArg {
			t.Error("who", l, r, why)
		}
	}
	for _, l := range [][]api.Wait{nil, {{G: 1}}, many(64)} {
		for _, w := range []api.Wait{{G: -1}, {Case: -1}, {Start: -1}} {
			refused(l, w, -1)
		}
		refused(l, api.Wait{G: math.MinInt}, math.MinInt)
	}
}

func TestPush(t *testing.T) {
	l := []api.Wait{{G: 1}, {G: 2, Case: 1, Start: 3}}
	for _, x := range []struct {
		w   api.Wait
		why api.Errno
	}{
		{api.Wait{G: 1, Case: 1}, api.OK},
		{api.Wait{G: 2}, api.OK},
		{api.Wait{G: 3, Start: 9}, api.OK},
		{api.Wait{G: 1}, api.ErrTwice},
		{api.Wait{G: 2, Case: 1, Start: 4}, api.ErrTwice},
	} {
		r, why := waits.Push(l, x.w)
		if why != x.why || why == api.OK && !slices.Equal(r, append(slices.Clone(l), x.w)) || why != api.OK && len(r) != 0 {
			t.Error(x, r, why)
		}
	}
	if r, why := waits.Push(many(63), api.Wait{G: 9}); len(r) != 64 || r[63].G != 9 || why != api.OK {
		t.Error(r, why)
	}
	if r, why := waits.Push(many(64), api.Wait{G: 9}); len(r) != 0 || why != api.ErrFull {
		t.Error(r, why)
	}
	if r, why := waits.Push(many(64), api.Wait{G: 3, Case: 2}); len(r) != 0 || why != api.ErrTwice {
		t.Error("twice is ahead of full", r, why)
	}
}

func TestExample(t *testing.T) {
	l := []api.Wait{{G: 2}, {G: 1}, {G: 2, Case: 1}}
	if w, why := waits.First(l, 2); w != (api.Wait{G: 1}) || why != api.OK {
		t.Error(w, why)
	}
	if w, why := waits.First(l, 7); w != (api.Wait{G: 2}) || why != api.OK {
		t.Error(w, why)
	}
	if all, why := waits.Who(l); !slices.Equal(all, []int{2, 1}) || why != api.OK {
		t.Error(all, why)
	}
	if r, why := waits.Drop(l, 2); !slices.Equal(r, []api.Wait{{G: 1}}) || why != api.OK {
		t.Error(r, why)
	}
	if w, why := waits.First([]api.Wait{{G: 2}, {G: 2, Case: 3}}, 2); w != (api.Wait{}) || why != api.ErrNone {
		t.Error(w, why)
	}
	if w, why := waits.First(nil, 0); w != (api.Wait{}) || why != api.ErrNone {
		t.Error(w, why)
	}
	if all, why := waits.Who(nil); len(all) != 0 || why != api.OK {
		t.Error(all, why)
	}
}

// TestDropped is P5.3: who is dropped is not found any more, and all others are as they were.
func TestDropped(t *testing.T) {
	for n := range 65 {
		l := many(n)
		slices.Reverse(l)
		for g := range 6 {
			r, why := waits.Drop(l, g)
			want := slices.DeleteFunc(slices.Clone(l), func(w api.Wait) bool { return w.G == g })
			if why != api.OK || !slices.Equal(r, want) {
				t.Fatal(n, g, r, why)
			}
			all, _ := waits.Who(r)
			if slices.Contains(all, g) {
				t.Fatal(n, g, all)
			}
			w, why := waits.First(l, g)
			if len(want) == 0 && why != api.ErrNone || len(want) > 0 && (why != api.OK || w != want[0]) {
				t.Fatal(n, g, w, why)
			}
		}
		if !slices.EqualFunc(l, many(n), func(w, x api.Wait) bool { return w.Start == x.Start }) {
			t.Fatal("changed", l)
		}
	}
}

func TestArgumentsStayAsTheyAre(t *testing.T) {
	l := []api.Wait{{G: 2}, {G: 1}, {G: 2, Case: 1}, {G: 3}}
	before := slices.Clone(l)
	waits.Push(l, api.Wait{G: 3, Case: 3})
	waits.Drop(l, 2)
	waits.First(l, 2)
	waits.Who(l)
	if !slices.Equal(l, before) {
		t.Error(l)
	}
}
