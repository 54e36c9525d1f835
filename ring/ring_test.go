package ring_test

import (
	"math"
	"slices"
	"testing"

	"plait/api"
	"plait/ring"
)

var bad = []api.Ring{
	{Cap: -1},
	{Cap: 9, Slots: make([]int, 9)},
	{Cap: 2, Slots: make([]int, 1)},
	{Cap: 2, Slots: make([]int, 3)},
	{Cap: 0, Slots: make([]int, 1)},
	{Cap: 2, Slots: make([]int, 2), First: 2},
	{Cap: 2, Slots: make([]int, 2), First: -1},
	{Cap: 0, First: 1},
	{Cap: 0, First: -1},
	{Cap: 2, Slots: make([]int, 2), Count: 3},
	{Cap: 2, Slots: make([]int, 2), Count: -1},
	{Cap: 0, Count: 1},
	{Cap: math.MinInt, First: math.MaxInt, Count: math.MinInt},
}

func items(t *testing.T, r api.Ring) []int {
	t.Helper()
	l, why := ring.Items(r)
	if why != api.OK || !ring.Right(r) {
		t.Fatal(r, l, why)
	}
	return l
}

func isZero(r api.Ring) bool { return r.Cap == 0 && r.First == 0 && r.Count == 0 && len(r.Slots) == 0 }

func TestRight(t *testing.T) {
	for _, r := range []api.Ring{
		{},
		{Slots: []int{}},
		{Cap: 1, Slots: []int{4}, Count: 1},
		{Cap: 8, Slots: make([]int, 8), First: 7, Count: 8},
		{Cap: 8, Slots: make([]int, 8), First: 7},
	} {
		if !ring.Right(r) {
			t.Error(r)
		}
	}
	for _, r := range bad {
		if ring.Right(r) {
			t.Error(r)
		}
	}
}

func TestBadRingsAreRefusedFirst(t *testing.T) {
	for _, r := range bad {
		if s, why := ring.Push(r, 1); !isZero(s) || why != api.ErrArg {
			t.Error("push", r, s, why)
		}
		if s, v, why := ring.Pop(r); !isZero(s) || v != 0 || why != api.ErrArg {
			t.Error("pop", r, s, v, why)
		}
		if l, why := ring.Items(r); len(l) != 0 || why != api.ErrArg {
			t.Error("items", r, l, why)
		}
		for _, n := range []int{-1, 4, 9} {
			if s, why := ring.Grow(r, n); !isZero(s) || why != api.ErrArg {
				t.Error("grow", r, n, s, why)
			}
		}
	}
}

func TestNew(t *testing.T) {
	for n := range 9 {
		r, why := ring.New(n)
		if why != api.OK || r.Cap != n || len(items(t, r)) != 0 {
			t.Error(n, r, why)
		}
	}
	for _, n := range []int{-1, 9, math.MinInt, math.MaxInt} {
		if r, why := ring.New(n); !isZero(r) || why != api.ErrSize {
			t.Error(n, r, why)
		}
	}
}

func TestExample(t *testing.T) {
	r := api.Ring{Cap: 2, First: 1, Slots: []int{7, 5}, Count: 2}
	if l := items(t, r); !slices.Equal(l, []int{5, 7}) {
		t.Error(l)
	}
	s, v, why := ring.Pop(r)
	if why != api.OK || v != 5 || s.Cap != 2 || !slices.Equal(items(t, s), []int{7}) {
		t.Error(s, v, why)
	}
	if _, why := ring.Push(r, 1); why != api.ErrFull {
		t.Error(why)
	}
	if !slices.Equal(r.Slots, []int{7, 5}) {
		t.Error("changed", r)
	}
}

func TestFullAndNone(t *testing.T) {
	r, _ := ring.New(0)
	if s, why := ring.Push(r, 1); !isZero(s) || why != api.ErrFull {
		t.Error(s, why)
	}
	for n := range 9 {
		r, _ := ring.New(n)
		if s, v, why := ring.Pop(r); !isZero(s) || v != 0 || why != api.ErrNone {
			t.Error(n, s, v, why)
		}
	}
}

// TestEveryRing is P4.2 and P4.3 at every ring of every First and Count.
func TestEveryRing(t *testing.T) {
	for n := range 9 {
		for first := range max(n, 1) {
			for count := range n + 1 {
				r := api.Ring{Cap: n, First: first, Count: count}
				for i := range n {
					r.Slots = append(r.Slots, 10+i)
				}
				var want []int
				for i := range count {
					want = append(want, 10+(first+i)%n)
				}
				before := slices.Clone(r.Slots)
				look(t, r, want)
				if !slices.Equal(before, r.Slots) {
					t.Fatal("changed", r)
				}
			}
		}
	}
}

func look(t *testing.T, r api.Ring, want []int) {
	if l := items(t, r); !slices.Equal(l, want) {
		t.Fatal(r, l)
	}
	if s, why := ring.Push(r, 99); len(want) < r.Cap {
		if why != api.OK || s.Cap != r.Cap || !slices.Equal(items(t, s), append(slices.Clone(want), 99)) {
			t.Fatal("push", r, s, why)
		}
	} else if why != api.ErrFull {
		t.Fatal("push", r, s, why)
	}
	if s, v, why := ring.Pop(r); len(want) > 0 {
		if why != api.OK || v != want[0] || s.Cap != r.Cap || !slices.Equal(items(t, s), want[1:]) {
			t.Fatal("pop", r, s, v, why)
		}
	}
	for n := -1; n < 10; n++ {
		s, why := ring.Grow(r, n)
		if n < len(want) || n > 8 {
			if !isZero(s) || why != api.ErrSize {
				t.Fatal("grow", r, n, s, why)
			}
		} else if why != api.OK || s.Cap != n || !slices.Equal(items(t, s), want) {
			t.Fatal("grow", r, n, s, why)
		}
	}
}

// TestFirstInFirstOut is P4.3: pushed and popped in turns that go round many times.
func TestFirstInFirstOut(t *testing.T) {
	for n := 1; n < 9; n++ {
		r, _ := ring.New(n)
		in, out := 0, 0
		for step := range 200 {
			if (step*7+step/5)%3 != 0 && in-out < n {
				r, _ = ring.Push(r, in)
				in++
			} else if in > out {
				s, v, why := ring.Pop(r)
				if why != api.OK || v != out {
					t.Fatal(n, step, v, out, why)
				}
				r = s
				out++
			}
			if l := items(t, r); len(l) != in-out {
				t.Fatal(n, step, l)
			}
		}
	}
}

func TestArgumentsStayAsTheyAre(t *testing.T) {
	r := api.Ring{Cap: 3, First: 2, Slots: []int{1, 2, 3}, Count: 2}
	ring.Push(r, 5)
	ring.Pop(r)
	ring.Grow(r, 3)
	ring.Items(r)
	if !slices.Equal(r.Slots, []int{1, 2, 3}) {
		t.Error(r)
	}
}
