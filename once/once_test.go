package once_test

import (
	"math"
	"slices"
	"testing"

	"plait/api"
	"plait/once"
)

func queue(n int) []api.Wait {
	var l []api.Wait
	for i := range n {
		l = append(l, api.Wait{G: 1 + i%7, Case: i / 7, Start: 3})
	}
	return l
}

var bad = []api.Once{
	{State: -1},
	{State: 3},
	{State: math.MinInt},
	{State: api.ODoes, By: -1},
	{State: api.ONew, By: 1},
	{State: api.ODone, By: 1},
	{State: api.ONew, Queue: queue(1)},
	{State: api.ODone, Queue: queue(1)},
	{State: api.ODoes, By: 1, Queue: queue(3)},
	{State: api.ODoes, By: 9, Queue: []api.Wait{{G: -1}}},
	{State: api.ODoes, By: 9, Queue: []api.Wait{{G: 1}, {G: 1, Start: 1}}},
	{State: api.ODoes, By: 9, Queue: queue(65)},
}

func same(a, b api.Once) bool {
	return a.State == b.State && a.By == b.By && slices.Equal(a.Queue, b.Queue)
}

func TestRight(t *testing.T) {
	for _, o := range []api.Once{{}, {Queue: []api.Wait{}}, {State: api.ODone}, {State: api.ODoes}, {State: api.ODoes, By: 9, Queue: queue(64)}, {State: api.ODoes, By: 0, Queue: queue(1)}} {
		if !once.Right(o) {
			t.Error(o)
		}
	}
	for _, o := range bad {
		if once.Right(o) {
			t.Error(o)
		}
	}
}

func TestWrongArguments(t *testing.T) {
	for _, o := range bad {
		if p, n, why := once.Do(o, api.Wait{G: 20}); !same(p, api.Once{}) || n != 0 || why != api.ErrArg {
			t.Error("do", o, p, n, why)
		}
		for _, g := range []int{-1, 0, 9} {
			if p, l, why := once.End(o, g); !same(p, api.Once{}) || len(l) > 0 || why != api.ErrArg {
				t.Error("end", o, g, p, l, why)
			}
		}
	}
	for _, o := range []api.Once{{}, {State: api.ODoes}, {State: api.ODone}} {
		for _, w := range []api.Wait{{G: -1}, {Case: -1}, {Start: -1}, {G: math.MinInt}} {
			if p, n, why := once.Do(o, w); !same(p, api.Once{}) || n != 0 || why != api.ErrArg {
				t.Error("do", o, w, p, n, why)
			}
		}
		if p, l, why := once.End(o, -1); !same(p, api.Once{}) || len(l) > 0 || why != api.ErrArg {
			t.Error("end", o, p, l, why)
		}
	}
}

func TestDo(t *testing.T) {
	if p, n, why := once.Do(api.Once{State: api.ODoes, By: 9}, api.Wait{}); !same(p, api.Once{State: api.ODoes, By: 9, Queue: make([]api.Wait, 1)}) || n != 1 || why != api.OK {
		t.Error(p, n, why)
	}
	w := api.Wait{G: 20, Case: 2, Start: 6}
	for _, x := range []struct {
		o, want api.Once
		n       int
		why     api.Errno
	}{
		{api.Once{}, api.Once{State: api.ODoes, By: 20}, 0, api.OK},
		{api.Once{State: api.ODone}, api.Once{State: api.ODone}, 2, api.OK},
		{api.Once{State: api.ODoes, By: 20}, api.Once{}, 0, api.ErrState},
		{api.Once{State: api.ODoes, By: 20, Queue: queue(64)}, api.Once{}, 0, api.ErrState},
		{api.Once{State: api.ODoes}, api.Once{State: api.ODoes, Queue: []api.Wait{w}}, 1, api.OK},
		{api.Once{State: api.ODoes, By: 9, Queue: queue(63)}, api.Once{State: api.ODoes, By: 9, Queue: append(queue(63), w)}, 1, api.OK},
		{api.Once{State: api.ODoes, By: 9, Queue: queue(64)}, api.Once{}, 0, api.ErrFull},
		{api.Once{State: api.ODoes, By: 9, Queue: []api.Wait{{G: 20, Case: 2}}}, api.Once{}, 0, api.ErrTwice},
	} {
		if p, n, why := once.Do(x.o, w); !same(p, x.want) || n != x.n || why != x.why {
			t.Error(x, p, n, why)
		}
	}
}

func TestEnd(t *testing.T) {
	for _, x := range []struct {
		o   api.Once
		g   int
		why api.Errno
	}{
		{api.Once{}, 0, api.ErrState},
		{api.Once{State: api.ODone}, 0, api.ErrState},
		{api.Once{State: api.ODoes, By: 9}, 8, api.ErrState},
		{api.Once{State: api.ODoes, By: 9, Queue: queue(3)}, 1, api.ErrState},
		{api.Once{State: api.ODoes, By: 9}, 9, api.OK},
		{api.Once{State: api.ODoes, By: 9, Queue: queue(64)}, 9, api.OK},
	} {
		var want api.Once
		var told []api.Wait
		if x.why == api.OK {
			want, told = api.Once{State: api.ODone}, x.o.Queue
		}
		if p, l, why := once.End(x.o, x.g); !same(p, want) || !slices.Equal(l, told) || why != x.why {
			t.Error(x, p, l, why)
		}
	}
}

// TestExample is P11.3, too: done by one, and once; who comes meanwhile waits, and who comes later does not.
func TestExample(t *testing.T) {
	o, a, _ := once.Do(api.Once{}, api.Wait{G: 3})
	o, b, _ := once.Do(o, api.Wait{G: 1})
	o, l, why := once.End(o, 3)
	o, c, _ := once.Do(o, api.Wait{G: 2})
	o, d, _ := once.Do(o, api.Wait{G: 3})
	if a != 0 || b != 1 || !slices.Equal(l, []api.Wait{{G: 1}}) || why != api.OK || c != 2 || d != 2 || o.State != api.ODone {
		t.Error(a, b, l, why, c, d, o)
	}
	if _, _, why := once.End(o, 3); why != api.ErrState {
		t.Error(why)
	}
}

func TestArgumentsStayAsTheyAre(t *testing.T) {
	o := api.Once{State: api.ODoes, By: 9, Queue: queue(3)}
	once.Do(o, api.Wait{G: 20})
	once.End(o, 9)
	if !same(o, api.Once{State: api.ODoes, By: 9, Queue: queue(3)}) {
		t.Error(o)
	}
}
