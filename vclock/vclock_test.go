package vclock_test

import (
	"slices"
	"testing"

	"plait/api"
	"plait/vclock"
)

const top = api.MaxTick

// bad are clocks that may not be: P1.1.
var bad = [][]int{{-1}, {0, top + 1}, make([]int, 17), {1, 2, -1 << 63}, {1<<63 - 1}}

// small are all clocks of up to three entries of 0 to 2, trim or not.
func small() [][]int {
	all := [][]int{nil}
	for from := 0; len(all[len(all)-1]) < 3; {
		to := len(all)
		for _, c := range all[from:to] {
			for n := range 3 {
				all = append(all, append(slices.Clone(c), n))
			}
		}
		from = to
	}
	return all
}

func trim(c []int) bool { return len(c) == 0 || c[len(c)-1] != 0 }

func same(a, b []int) bool {
	for g := range api.MaxGors {
		m, _ := vclock.At(a, g)
		n, _ := vclock.At(b, g)
		if m != n {
			return false
		}
	}
	return true
}

func leq(t *testing.T, a, b []int) bool {
	t.Helper()
	is, why := vclock.Leq(a, b)
	if why != api.OK {
		t.Fatal(a, b, why)
	}
	return is
}

func join(t *testing.T, a, b []int) []int {
	t.Helper()
	c, why := vclock.Join(a, b)
	if why != api.OK || !trim(c) {
		t.Fatal(a, b, c, why)
	}
	return c
}

func TestRight(t *testing.T) {
	full := make([]int, 16)
	full[15] = top
	for _, c := range [][]int{nil, {}, {0}, {0, 0, 0}, {top}, full} {
		if !vclock.Right(c) {
			t.Error(c)
		}
	}
	for _, c := range bad {
		if vclock.Right(c) {
			t.Error(c)
		}
	}
}

func TestBadClocksAreRefusedFirst(t *testing.T) {
	for _, c := range bad {
		for _, g := range []int{-1, 0, 16} {
			if n, why := vclock.At(c, g); n != 0 || why != api.ErrArg {
				t.Error("at", c, g, n, why)
			}
			if d, why := vclock.Tick(c, g); len(d) != 0 || why != api.ErrArg {
				t.Error("tick", c, g, d, why)
			}
		}
		for _, pair := range [][2][]int{{c, nil}, {nil, c}, {c, c}, {c, {1}}} {
			if d, why := vclock.Join(pair[0], pair[1]); len(d) != 0 || why != api.ErrArg {
				t.Error("join", pair, d, why)
			}
			if is, why := vclock.Leq(pair[0], pair[1]); is || why != api.ErrArg {
				t.Error("leq", pair, is, why)
			}
		}
		if d, why := vclock.Trim(c); len(d) != 0 || why != api.ErrArg {
			t.Error("trim", c, d, why)
		}
	}
}

func TestAt(t *testing.T) {
	for _, x := range []struct{ g, want int }{{0, 4}, {1, 0}, {2, top}, {3, 0}, {15, 0}} {
		if n, why := vclock.At([]int{4, 0, top}, x.g); n != x.want || why != api.OK {
			t.Error(x, n, why)
		}
	}
	for _, g := range []int{-1, 16, 1 << 62, -1 << 63} {
		if n, why := vclock.At([]int{4}, g); n != 0 || why != api.ErrRange {
			t.Error(g, n, why)
		}
	}
}

func TestTick(t *testing.T) {
	for _, x := range []struct {
		c    []int
		g    int
		want []int
		why  api.Errno
	}{
		{nil, 0, []int{1}, api.OK},
		{nil, 15, append(make([]int, 15), 1), api.OK},
		{[]int{4, 0, 0}, 1, []int{4, 1}, api.OK},
		{[]int{4}, 2, []int{4, 0, 1}, api.OK},
		{[]int{top - 1, 2}, 0, []int{top, 2}, api.OK},
		{[]int{top}, 0, nil, api.ErrOver},
		{[]int{top}, 16, nil, api.ErrRange},
		{[]int{top}, -1, nil, api.ErrRange},
		{[]int{top}, 1, []int{top, 1}, api.OK},
	} {
		if c, why := vclock.Tick(x.c, x.g); !slices.Equal(c, x.want) || why != x.why {
			t.Error(x, c, why)
		}
	}
}

func TestJoinLeqTrim(t *testing.T) {
	if c := join(t, []int{1, 0, 3}, []int{0, 2}); !slices.Equal(c, []int{1, 2, 3}) {
		t.Error(c)
	}
	if c := join(t, []int{0, 0}, []int{0}); len(c) != 0 {
		t.Error(c)
	}
	if !leq(t, []int{0, 0}, nil) || leq(t, []int{0, 1}, nil) || !leq(t, nil, nil) || leq(t, []int{2}, []int{1, top}) {
		t.Error("leq")
	}
	for _, x := range [][2][]int{{{0, 2, 0, 0}, {0, 2}}, {{0, 0}, nil}, {nil, nil}, {{3}, {3}}} {
		if c, why := vclock.Trim(x[0]); !slices.Equal(c, x[1]) || why != api.OK {
			t.Error(x, c, why)
		}
	}
}

// TestOrder is P1.3: an order, and the least clock above two.
func TestOrder(t *testing.T) {
	all := small()
	for _, a := range all {
		if !leq(t, a, a) || !slices.Equal(join(t, a, a), join(t, a, nil)) || !same(a, join(t, a, a)) {
			t.Fatal(a)
		}
		for _, b := range all {
			if leq(t, a, b) && leq(t, b, a) != same(a, b) {
				t.Fatal("not one clock", a, b)
			}
			ab := join(t, a, b)
			if !slices.Equal(ab, join(t, b, a)) || !slices.Equal(ab, join(t, ab, b)) || !leq(t, a, ab) || !leq(t, b, ab) {
				t.Fatal("join", a, b, ab)
			}
			for _, c := range all {
				if leq(t, a, b) && leq(t, b, c) && !leq(t, a, c) {
					t.Fatal("no order", a, b, c)
				}
				if leq(t, a, c) && leq(t, b, c) && !leq(t, ab, c) {
					t.Fatal("not the least", a, b, c)
				}
				if !slices.Equal(join(t, ab, c), join(t, a, join(t, b, c))) {
					t.Fatal("not in any order", a, b, c)
				}
			}
		}
	}
}

func TestTickIsAbove(t *testing.T) {
	for _, c := range small() {
		for g := range api.MaxGors {
			d, why := vclock.Tick(c, g)
			if why != api.OK || !trim(d) || !leq(t, c, d) || leq(t, d, c) {
				t.Fatal(c, g, d, why)
			}
			for h := range api.MaxGors {
				m, _ := vclock.At(c, h)
				n, _ := vclock.At(d, h)
				if h == g && n != m+1 || h != g && n != m {
					t.Fatal(c, g, d)
				}
			}
		}
	}
}

func TestArgumentsStayAsTheyAre(t *testing.T) {
	a, b := []int{1, 0, 3, 0}, []int{0, 2, 0}
	for _, pair := range [][2][]int{{a, b}, {b, a}} {
		vclock.Join(pair[0], pair[1])
		vclock.Leq(pair[0], pair[1])
		vclock.Trim(pair[0])
		for g := range 16 {
			vclock.Tick(pair[0], g)
		}
	}
	if !slices.Equal(a, []int{1, 0, 3, 0}) || !slices.Equal(b, []int{0, 2, 0}) {
		t.Error(a, b)
	}
}
