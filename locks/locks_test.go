package locks_test

import (
	"math"
	"slices"
	"testing"

	"plait/api"
	"plait/locks"
)

func queue(n int) []api.Wait {
	var l []api.Wait
	for i := range n {
		l = append(l, api.Wait{G: i % 7, Case: i / 7, Start: 3})
	}
	return l
}

var bad = []api.Lock{
	{Queue: queue(1)},
	{Held: true, Queue: []api.Wait{{G: -1}}},
	{Held: true, Queue: []api.Wait{{G: 1}, {G: 1, Start: 2}}},
	{Held: true, Queue: queue(65)},
	{Held: false, Queue: []api.Wait{{G: -1}}},
}

func same(a, b api.Lock) bool { return a.Held == b.Held && slices.Equal(a.Queue, b.Queue) }

func TestRight(t *testing.T) {
	for _, l := range []api.Lock{{}, {Queue: []api.Wait{}}, {Held: true}, {Held: true, Queue: queue(64)}} {
		if !locks.Right(l) {
			t.Error(l)
		}
	}
	for _, l := range bad {
		if locks.Right(l) {
			t.Error(l)
		}
	}
}

func TestWrongArguments(t *testing.T) {
	for _, l := range bad {
		if m, is, why := locks.Take(l, api.Wait{G: 9}); !same(m, api.Lock{}) || is || why != api.ErrArg {
			t.Error("take", l, m, is, why)
		}
		if m, w, is, why := locks.Give(l); !same(m, api.Lock{}) || w != (api.Wait{}) || is || why != api.ErrArg {
			t.Error("give", l, m, w, is, why)
		}
		if n, why := locks.Waiting(l); n != 0 || why != api.ErrArg {
			t.Error("waiting", l, n, why)
		}
	}
	for _, l := range []api.Lock{{}, {Held: true}, {Held: true, Queue: queue(64)}} {
		for _, w := range []api.Wait{{G: -1}, {Case: -1}, {Start: -1}, {Start: math.MinInt}} {
			if m, is, why := locks.Take(l, w); !same(m, api.Lock{}) || is || why != api.ErrArg {
				t.Error("take", l, w, m, is, why)
			}
		}
	}
}

func TestTake(t *testing.T) {
	if m, is, why := locks.Take(api.Lock{}, api.Wait{G: 4}); !same(m, api.Lock{Held: true}) || !is || why != api.OK {
		t.Error(m, is, why)
	}
	for _, n := range []int{0, 1, 5, 63} {
		l := api.Lock{Held: true, Queue: queue(n)}
		w := api.Wait{G: 8, Case: 1, Start: 2}
		want := api.Lock{Held: true, Queue: append(queue(n), w)}
		if m, is, why := locks.Take(l, w); !same(m, want) || is || why != api.OK {
			t.Error(n, m, is, why)
		}
		if k, why := locks.Waiting(l); k != n || why != api.OK {
			t.Error(n, k, why)
		}
	}
	full := api.Lock{Held: true, Queue: queue(64)}
	if m, is, why := locks.Take(full, api.Wait{G: 9}); !same(m, api.Lock{}) || is || why != api.ErrFull {
		t.Error(m, is, why)
	}
	if m, is, why := locks.Take(full, api.Wait{G: 3, Start: 9}); !same(m, api.Lock{}) || is || why != api.ErrTwice {
		t.Error(m, is, why)
	}
}

func TestGive(t *testing.T) {
	if m, w, is, why := locks.Give(api.Lock{}); !same(m, api.Lock{}) || w != (api.Wait{}) || is || why != api.ErrState {
		t.Error(m, w, is, why)
	}
	if m, w, is, why := locks.Give(api.Lock{Held: true}); !same(m, api.Lock{}) || w != (api.Wait{}) || is || why != api.OK {
		t.Error(m, w, is, why)
	}
	// Of one goroutine that waits twice, the first wait alone is gone.
	l := api.Lock{Held: true, Queue: []api.Wait{{G: 2, Start: 5}, {G: 1}, {G: 2, Case: 1}}}
	want := api.Lock{Held: true, Queue: []api.Wait{{G: 1}, {G: 2, Case: 1}}}
	if m, w, is, why := locks.Give(l); !same(m, want) || w != (api.Wait{G: 2, Start: 5}) || !is || why != api.OK {
		t.Error(m, w, is, why)
	}
}

func TestExample(t *testing.T) {
	l, first, _ := locks.Take(api.Lock{}, api.Wait{G: 1})
	l, second, _ := locks.Take(l, api.Wait{G: 2})
	l, w, is, why := locks.Give(l)
	if !first || second || w.G != 2 || !is || !l.Held || why != api.OK {
		t.Error(first, second, l, w, is, why)
	}
}

// TestOneAtATime is P10.3: held by each in the order in which they came, and given back as often as taken.
func TestOneAtATime(t *testing.T) {
	var l api.Lock
	holder := -1
	var line []int
	taken, given := 0, 0
	for step := range 2000 {
		if (step*step/7+step)%2 == 0 && len(line) < 64 {
			m, is, why := locks.Take(l, api.Wait{G: step})
			if why != api.OK || is != (holder < 0) {
				t.Fatal(step, m, is, why)
			}
			if is {
				holder = step
				taken++
			} else {
				line = append(line, step)
			}
			l = m
		} else {
			m, w, is, why := locks.Give(l)
			if holder < 0 {
				if why != api.ErrState {
					t.Fatal(step, why)
				}
				continue
			}
			given++
			if why != api.OK || is != (len(line) > 0) || is && w.G != line[0] {
				t.Fatal(step, m, w, is, why)
			}
			holder = -1
			if is {
				holder, line = w.G, line[1:]
				taken++
			}
			l = m
		}
		if n, _ := locks.Waiting(l); n != len(line) || l.Held != (holder >= 0) || l.Held != (taken == given+1) {
			t.Fatal(step, l, taken, given)
		}
	}
}

func TestArgumentsStayAsTheyAre(t *testing.T) {
	l := api.Lock{Held: true, Queue: queue(3)}
	locks.Take(l, api.Wait{G: 9})
	locks.Give(l)
	locks.Waiting(l)
	if !same(l, api.Lock{Held: true, Queue: queue(3)}) {
		t.Error(l)
	}
}
