package chans_test

import (
	"math"
	"reflect"
	"slices"
	"testing"

	"plait/api"
	"plait/chans"
	"plait/ring"
)

var nobody = api.Wait{G: api.NoOne}

// at is a channel whose buffer begins at some slot and has the numbers got to sent.
func at(n int, closed bool, got, sent int, sends, recvs []api.Wait) api.Chan {
	size := max(n, 0)
	c := api.Chan{Cap: n, Closed: closed, Got: got, Sent: sent, Sends: sends, Recvs: recvs}
	c.Buf = api.Ring{Cap: size, Count: sent - got, Slots: make([]int, size)}
	if size > 0 {
		c.Buf.First = got % size
	}
	for i := range min(sent-got, size) {
		c.Buf.Slots[(c.Buf.First+i)%size] = got + i
	}
	return c
}

// seen is all of a channel that is not its own way of keeping it.
type seen struct {
	Cap, Sent, Got int
	Closed         bool
	Items          []int
	Sends, Recvs   []api.Wait
}

func look(c api.Chan) seen {
	items, why := ring.Items(c.Buf)
	if why != api.OK || c.Buf.Cap != max(c.Cap, 0) {
		return seen{Cap: -99}
	}
	return seen{c.Cap, c.Sent, c.Got, c.Closed, append([]int{}, items...), append([]api.Wait{}, c.Sends...), append([]api.Wait{}, c.Recvs...)}
}

func same(a, b seen) bool { return reflect.DeepEqual(a, b) }

func isZero(c api.Chan) bool {
	return !c.Closed && c.Cap == 0 && c.Sent == 0 && c.Got == 0 && len(c.Sends)+len(c.Recvs)+len(c.Buf.Slots) == 0
}

var queues = [][]api.Wait{nil, {{G: 1, Start: 4}}, {{G: 2, Start: 3}, {G: 1, Start: 4}}, {{G: 1, Case: 1, Start: 4}, {G: 2, Start: 5}, {G: 1, Case: 2, Start: 4}, {G: 0, Start: 9}}}

// every are channels of all shapes that may be, and how many values were got at the edges.
func every() []api.Chan {
	var all []api.Chan
	for n := -1; n <= 3; n++ {
		for count := range max(n, 0) + 1 {
			for _, got := range []int{0, 5, api.MaxSent - count - 1, api.MaxSent - count} {
				for _, sends := range queues {
					for _, recvs := range queues {
						for _, closed := range []bool{false, true} {
							if n == -1 && (closed || got > 0) || (n == -1 || closed) && len(sends)+len(recvs) > 0 {
								continue
							}
							if len(sends) > 0 && count < n || len(recvs) > 0 && count > 0 {
								continue
							}
							all = append(all, at(n, closed, got, got+count, sends, recvs))
						}
					}
				}
			}
		}
	}
	return all
}

func other(l []api.Wait, g int) (api.Wait, bool) {
	for _, w := range l {
		if w.G != g {
			return w, true
		}
	}
	return nobody, false
}

func without(l []api.Wait, g int) []api.Wait {
	return slices.DeleteFunc(append([]api.Wait{}, l...), func(w api.Wait) bool { return w.G == g })
}

func (s *seen) leave(g int) { s.Sends, s.Recvs = without(s.Sends, g), without(s.Recvs, g) }

func queued(l []api.Wait, w api.Wait) ([]api.Wait, api.Errno) {
	for _, x := range l {
		if x.G == w.G && x.Case == w.Case {
			return l, api.ErrTwice
		}
	}
	return append(slices.Clip(l), w), api.OK
}

// send is P9.2, by the document's words.
func (s *seen) send(w api.Wait) (api.Outcome, api.Errno) {
	o := api.Outcome{Who: nobody}
	if s.Cap == -1 {
		return o, api.OK
	}
	if s.Closed {
		o.Kind = api.KPanic
		return o, api.OK
	}
	if who, is := other(s.Recvs, w.G); is {
		if s.Sent == api.MaxSent {
			return api.Outcome{}, api.ErrFull
		}
		s.leave(who.G)
		s.Sent++
		s.Got++
		return api.Outcome{Kind: api.KDone, Who: who, No: s.Sent - 1, Other: s.Sent - 1}, api.OK
	}
	if len(s.Items) < s.Cap {
		if s.Sent == api.MaxSent {
			return api.Outcome{}, api.ErrFull
		}
		s.Items = append(s.Items, s.Sent)
		s.Sent++
		return api.Outcome{Kind: api.KDone, Who: nobody, No: s.Sent - 1}, api.OK
	}
	var why api.Errno
	s.Sends, why = queued(s.Sends, w)
	return o, why
}

// recv is P9.3, by the document's words.
func (s *seen) recv(w api.Wait) (api.Outcome, api.Errno) {
	o := api.Outcome{Who: nobody}
	if s.Cap == -1 {
		return o, api.OK
	}
	who, is := other(s.Sends, w.G)
	if is && s.Sent == api.MaxSent {
		return api.Outcome{}, api.ErrFull
	}
	if len(s.Items) > 0 {
		o = api.Outcome{Kind: api.KDone, No: s.Items[0], Who: nobody}
		s.Items = s.Items[1:]
		s.Got++
		if is {
			o.Who, o.Other = who, s.Sent
			s.leave(who.G)
			s.Items = append(s.Items, s.Sent)
			s.Sent++
		}
		return o, api.OK
	}
	if is {
		s.leave(who.G)
		s.Sent++
		s.Got++
		return api.Outcome{Kind: api.KDone, Who: who, No: s.Sent - 1, Other: s.Sent - 1}, api.OK
	}
	if s.Closed {
		o.Kind = api.KClosed
		return o, api.OK
	}
	var why api.Errno
	s.Recvs, why = queued(s.Recvs, w)
	return o, why
}

func TestSendAndRecv(t *testing.T) {
	for _, c := range every() {
		before := look(c)
		if !chans.Right(c) {
			t.Fatal("right", c)
		}
		for g := range 4 {
			for cas := range 2 {
				w := api.Wait{G: g, Case: cas, Start: 20}
				for _, send := range []bool{true, false} {
					call, asked := chans.Recv, (*seen).recv
					if send {
						call, asked = chans.Send, (*seen).send
					}
					want := look(c)
					o, why := asked(&want, w)
					d, p, got := call(c, w)
					if got != why || why == api.OK && (p != o || !same(look(d), want)) || why != api.OK && (p != (api.Outcome{}) || !isZero(d)) {
						t.Fatal(send, c, w, "\n", d, p, got, "\n", want, o, why)
					}
					if !same(look(c), before) {
						t.Fatal("changed", c)
					}
				}
			}
		}
	}
}

func TestReady(t *testing.T) {
	for _, c := range every() {
		for g := range 4 {
			_, r := other(c.Recvs, g)
			_, s := other(c.Sends, g)
			send := c.Cap >= 0 && (c.Closed || r || c.Buf.Count < c.Cap)
			recv := c.Cap >= 0 && (c.Closed || s || c.Buf.Count > 0)
			if is, why := chans.Ready(c, true, g); is != send || why != api.OK {
				t.Fatal("send", c, g, is, why)
			}
			if is, why := chans.Ready(c, false, g); is != recv || why != api.OK {
				t.Fatal("recv", c, g, is, why)
			}
		}
	}
}

func TestClose(t *testing.T) {
	for _, c := range every() {
		want := look(c)
		panics := c.Cap == -1 || c.Closed || len(c.Sends) > 0
		var told []api.Wait
		if !panics {
			told = c.Recvs
			want.Closed, want.Recvs = true, []api.Wait{}
		}
		d, l, is, why := chans.Close(c)
		if !same(look(d), want) || !slices.Equal(l, told) || is != panics || why != api.OK || !chans.Right(d) {
			t.Fatal(c, d, l, is, why)
		}
	}
}

func TestLeave(t *testing.T) {
	for _, c := range every() {
		for g := range 4 {
			want := look(c)
			want.leave(g)
			if d, why := chans.Leave(c, g); !same(look(d), want) || why != api.OK || !chans.Right(d) {
				t.Fatal(c, g, d, why)
			}
		}
	}
}

func TestNew(t *testing.T) {
	for n := -1; n <= 3; n++ {
		if c, why := chans.New(n); !same(look(c), look(at(n, false, 0, 0, nil, nil))) || why != api.OK || !chans.Right(c) {
			t.Error(n, c, why)
		}
	}
	for _, n := range []int{-2, 4, math.MinInt, math.MaxInt} {
		if c, why := chans.New(n); !isZero(c) || why != api.ErrSize {
			t.Error(n, c, why)
		}
	}
}

func bad() []api.Chan {
	w := queues[1]
	few, shifted, big := at(2, false, 3, 4, nil, nil), at(2, false, 3, 5, nil, nil), at(2, false, 0, 0, nil, nil)
	few.Buf.Count = 0
	shifted.Buf.First = 1 - shifted.Buf.First
	big.Buf.Slots = make([]int, 3)
	less := at(1, false, 0, 0, nil, nil)
	less.Cap = 2
	nilRing := at(-1, false, 0, 0, nil, nil)
	nilRing.Buf = api.Ring{Cap: 1, Slots: make([]int, 1)}
	return []api.Chan{
		at(-2, false, 0, 0, nil, nil), at(4, false, 0, 0, nil, nil), few, shifted, big, less, nilRing,
		at(1, false, 0, 2, nil, nil), at(1, false, 1, 0, nil, nil), at(0, false, -1, -1, nil, nil), at(0, false, api.MaxSent+1, api.MaxSent+1, nil, nil),
		at(0, false, 0, 0, []api.Wait{{G: -1}}, nil), at(0, false, 0, 0, nil, []api.Wait{{G: 1}, {G: 1}}),
		at(-1, true, 0, 0, nil, nil), at(-1, false, 1, 1, nil, nil), at(-1, false, 0, 0, w, nil), at(-1, false, 0, 0, nil, w),
		at(0, true, 0, 0, w, nil), at(0, true, 0, 0, nil, w), at(2, true, 0, 2, w, nil),
		at(2, false, 0, 1, w, nil), at(2, false, 0, 0, w, nil), at(2, false, 0, 1, nil, w), at(1, false, 0, 1, w, w),
	}
}

func TestWrongArguments(t *testing.T) {
	refused := func(c api.Chan, w api.Wait) {
		t.Helper()
		if d, o, why := chans.Send(c, w); !isZero(d) || o != (api.Outcome{}) || why != api.ErrArg {
			t.Error("send", c, w, d, o, why)
		}
		if d, o, why := chans.Recv(c, w); !isZero(d) || o != (api.Outcome{}) || why != api.ErrArg {
			t.Error("recv", c, w, d, o, why)
		}
	}
	for i, c := range bad() {
		if chans.Right(c) {
			t.Error(i, c)
		}
		refused(c, api.Wait{G: 3})
		if is, why := chans.Ready(c, i%2 == 0, 1); is || why != api.ErrArg {
			t.Error("ready", c, is, why)
		}
		if d, l, is, why := chans.Close(c); !isZero(d) || len(l) > 0 || is || why != api.ErrArg {
			t.Error("close", c, d, l, is, why)
		}
		if d, why := chans.Leave(c, 1); !isZero(d) || why != api.ErrArg {
			t.Error("leave", c, d, why)
		}
	}
	for n := -1; n <= 3; n++ {
		c, _ := chans.New(n)
		for _, w := range []api.Wait{{G: -1}, {Case: -1}, {Start: -1}, {G: math.MinInt}} {
			refused(c, w)
		}
		for _, send := range []bool{true, false} {
			if is, why := chans.Ready(c, send, -1); is || why != api.ErrArg {
				t.Error("ready", n, is, why)
			}
		}
		if d, why := chans.Leave(c, -1); !isZero(d) || why != api.ErrArg {
			t.Error("leave", n, d, why)
		}
	}
}

func TestExample(t *testing.T) {
	c, _ := chans.New(0)
	c, o, why := chans.Recv(c, api.Wait{G: 2})
	if o != (api.Outcome{Kind: api.KWait, Who: nobody}) || why != api.OK {
		t.Error(o, why)
	}
	c, o, why = chans.Send(c, api.Wait{G: 1})
	if o != (api.Outcome{Kind: api.KDone, Who: api.Wait{G: 2}}) || why != api.OK || len(c.Recvs) > 0 {
		t.Error(o, why)
	}
}

func TestFullQueue(t *testing.T) {
	var l []api.Wait
	for i := range 64 {
		l = append(l, api.Wait{G: 1, Case: i})
	}
	if _, _, why := chans.Send(at(1, false, 0, 1, l, nil), api.Wait{G: 3}); why != api.ErrFull {
		t.Error(why)
	}
	if _, _, why := chans.Recv(at(1, false, 0, 0, nil, l), api.Wait{G: 3}); why != api.ErrFull {
		t.Error(why)
	}
}

// TestInOrder is P9.5: values are got in the order in which they are sent, each once, and never more than Cap are in between.
func TestInOrder(t *testing.T) {
	for n := range 4 {
		c, _ := chans.New(n)
		waiting := map[int]bool{}
		next := 0
		for step := range 3000 {
			send := (step*step/13+step)%5 < 2
			if len(c.Sends)+len(c.Recvs) > 5 {
				send = len(c.Recvs) > 0
			}
			call := chans.Recv
			if send {
				call = chans.Send
			}
			d, o, why := call(c, api.Wait{G: step, Start: step})
			if why != api.OK || !chans.Right(d) || d.Sent-d.Got > n {
				t.Fatal(n, step, d, o, why)
			}
			if o.Kind == api.KWait {
				waiting[step] = true
			}
			delete(waiting, o.Who.G)
			if o.Kind == api.KDone && !send || o.Who.G >= 0 && send {
				got := o.No
				if send {
					got = o.Other
				}
				if got != next {
					t.Fatal(n, step, got, next)
				}
				next++
			}
			if len(d.Sends)+len(d.Recvs) != len(waiting) {
				t.Fatal(n, step, d, waiting)
			}
			c = d
		}
		if next < 100 {
			t.Error("too few", next)
		}
	}
}

func TestArgumentsStayAsTheyAre(t *testing.T) {
	for _, c := range every() {
		before := look(c)
		chans.Leave(c, 1)
		chans.Close(c)
		chans.Ready(c, true, 1)
		if !same(look(c), before) {
			t.Fatal(c, before)
		}
	}
}
