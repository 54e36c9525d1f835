package whole_test

import (
	"math/rand"
	"testing"

	"plait/api"
	"plait/chans"
	"plait/check"
	"plait/code"
	"plait/edges"
	"plait/epoch"
	"plait/explore"
	"plait/locks"
	"plait/machine"
	"plait/once"
	"plait/order"
	"plait/prog"
	"plait/race"
	"plait/ring"
	"plait/run"
	"plait/samples"
	"plait/stamp"
	"plait/tally"
	"plait/text"
	"plait/trace"
	"plait/varint"
	"plait/vclock"
	"plait/waits"
)

// heap makes arguments of which most may not be, always the same ones.
type heap struct{ *rand.Rand }

func (h heap) number() int {
	if h.Intn(4) > 0 {
		return h.Intn(6) - 1
	}
	l := []int{-1 << 63, 1<<63 - 1, 15, 16, 17, 64, 65, 400, 401, api.MaxTick, api.MaxTick + 1, api.MaxVar, api.MaxVar + 1, api.MaxSent, api.MaxSent + 1, -7}
	return l[h.Intn(len(l))]
}

func several[T any](h heap, most int, one func() T) []T {
	l := make([]T, h.Intn(most+1))
	for i := range l {
		l[i] = one()
	}
	return l
}

func (h heap) numbers() []int { return several(h, 5, h.number) }

func (h heap) wait() api.Wait { return api.Wait{G: h.number(), Case: h.number(), Start: h.number()} }

func (h heap) waits() []api.Wait { return several(h, 3, h.wait) }

func (h heap) ring() api.Ring {
	return api.Ring{Cap: h.number(), First: h.number(), Slots: h.numbers(), Count: h.number()}
}

func (h heap) channel() api.Chan {
	return api.Chan{Cap: h.number(), Closed: h.Intn(2) == 0, Buf: h.ring(), Sent: h.number(), Got: h.number(), Sends: h.waits(), Recvs: h.waits()}
}

func (h heap) lock() api.Lock { return api.Lock{Held: h.Intn(2) == 0, Queue: h.waits()} }

func (h heap) once() api.Once { return api.Once{State: h.number(), By: h.number(), Queue: h.waits()} }

func (h heap) instr() api.Instr {
	return api.Instr{Op: h.Intn(16) - 1, A: h.number(), B: h.number()}
}

func (h heap) choice() api.Select {
	return api.Select{Cases: several(h, 3, func() api.Case { return api.Case{Send: h.Intn(2) == 0, Chan: h.number()} }), Default: h.Intn(2) == 0}
}

func (h heap) prog() api.Prog {
	if h.Intn(2) == 0 {
		return samples.Made(h.Intn(1000))
	}
	return api.Prog{Caps: h.numbers(), Mutexes: h.number(), Onces: h.number(), Vars: h.number(), Selects: several(h, 2, h.choice),
		Blocks: several(h, 3, func() []api.Instr { return several(h, 4, h.instr) })}
}

func (h heap) gor() api.Gor {
	return api.Gor{Block: h.number(), Pc: h.number(), State: h.number(), Closed: h.Intn(2) == 0}
}

func (h heap) world() api.World {
	w := api.World{Prog: h.prog(), Gors: several(h, 4, h.gor), Chans: several(h, 3, h.channel), Locks: several(h, 2, h.lock), Onces: several(h, 2, h.once), Events: h.number(), Status: h.Intn(3) / 2}
	if prog.Right(w.Prog) && h.Intn(4) > 0 { // a world that is nearly one
		v, _, _ := machine.New(w.Prog)
		for range h.Intn(6) {
			if l := machine.Choices(v); len(l) > 0 {
				v, _, _ = machine.Step(v, l[h.Intn(len(l))])
			}
		}
		switch h.Intn(4) {
		case 0:
			v.Gors = w.Gors
		case 1:
			v.Chans = append(w.Chans, v.Chans...)[:min(len(v.Chans), len(w.Chans)+len(v.Chans))]
		case 2:
			v.Locks = several(h, 2, h.lock)
			v.Onces = several(h, 2, h.once)
		}
		return v
	}
	return w
}

func (h heap) event() api.Event {
	return api.Event{G: h.number(), Kind: h.Intn(20) - 1, Obj: h.number(), No: h.number(), Start: h.number()}
}

func (h heap) events() []api.Event {
	if h.Intn(2) == 0 {
		return several(h, 6, h.event)
	}
	r, _ := run.Run(samples.Made(h.Intn(1000)), samples.Picks(h.Intn(1000), 30), 30)
	if len(r.Events) > 0 && h.Intn(2) == 0 {
		r.Events[h.Intn(len(r.Events))] = h.event()
	}
	return r.Events
}

func (h heap) text() string {
	l := make([]byte, h.Intn(12))
	for i := range l {
		l[i] = byte(h.Intn(256))
		if h.Intn(2) == 0 {
			l[i] = byte(h.Intn(4))
		}
	}
	if h.Intn(3) == 0 {
		s, _ := code.Encode(samples.Made(h.Intn(1000)))
		return s + string(l[:min(len(l), h.Intn(2))])
	}
	return string(l)
}

// TestNoPanic is P1: every call ends, and none panics, whatever it is given.
func TestNoPanic(t *testing.T) {
	h := heap{rand.New(rand.NewSource(1))}
	for range 3000 {
		small(h)
		queues(h)
		programs(h)
		judged(h)
	}
}

func small(h heap) {
	a, b := h.numbers(), h.numbers()
	m, n, s := h.number(), h.number(), h.text()
	vclock.Right(a)
	vclock.At(a, n)
	vclock.Tick(a, n)
	vclock.Join(a, b)
	vclock.Leq(a, b)
	vclock.Trim(a)
	epoch.Pack(m, n)
	epoch.Unpack(n)
	epoch.Known(n, a)
	epoch.Bytes(n)
	epoch.Narrow(m, n)
	epoch.Shift(m, n)
	varint.Put(n)
	varint.Get(s, n)
	varint.Sign(n)
	varint.Signed(s, n)
	varint.All(a)
	varint.Every(s)
	text.Name(n)
	text.Print(several(h, 30, h.instr))
	text.Parse(s)
}

func queues(h heap) {
	n, w, l, r, c := h.number(), h.wait(), h.waits(), h.ring(), h.channel()
	ring.Right(r)
	ring.New(n)
	ring.Push(r, n)
	ring.Pop(r)
	ring.Items(r)
	ring.Grow(r, n)
	waits.Right(l)
	waits.Push(l, w)
	waits.First(l, n)
	waits.Drop(l, n)
	waits.Who(l)
	chans.Right(c)
	chans.New(n)
	chans.Ready(c, h.Intn(2) == 0, n)
	chans.Send(c, w)
	chans.Recv(c, w)
	chans.Close(c)
	chans.Leave(c, n)
	k, o := h.lock(), h.once()
	locks.Right(k)
	locks.Take(k, w)
	locks.Give(k)
	locks.Waiting(k)
	once.Right(o)
	once.Do(o, w)
	once.End(o, n)
}

func programs(h heap) {
	p, n, m, s, a := h.prog(), h.number(), h.number(), h.text(), h.numbers()
	prog.Wrong(p)
	prog.Right(p)
	prog.Reach(p)
	prog.Count(p, n)
	code.Encode(p)
	code.Size(p)
	code.Decode(s)
	machine.New(p)
	w := h.world()
	for _, c := range append(machine.Choices(w), api.Choice{G: n, Case: m}) {
		machine.Step(w, c)
	}
	run.Run(p, a, n)
	run.Widths(p, a, n)
	run.Replay(p, several(h, 4, func() api.Choice { return api.Choice{G: h.number(), Case: h.number()} }))
	check.Check(s, a, n)
	check.Events(s, a, n)
	check.Before(s, a, n, m, h.number())
	explore.First(p, n)
	explore.Next(p, a, n)
	explore.Sweep(p, n, m%8)
	explore.Find(p, n, m%8)
}

func judged(h heap) {
	caps, l, i, j := h.numbers(), h.events(), h.number(), h.number()
	trace.Wrong(caps, l)
	trace.Last(l, i)
	trace.Count(l, i, j, h.number())
	edges.Of(caps, l, i)
	edges.All(caps, l)
	stamp.All(caps, l)
	stamp.Of(caps, l, i)
	stamp.Final(caps, l)
	order.Before(caps, l, i, j)
	order.Apart(caps, l, i, j)
	order.Past(caps, l, j)
	order.Frontier(caps, l)
	race.Find(caps, l)
	race.Races(caps, l, i, j)
	race.Racy(caps, l)
	tally.Pairs(caps, l)
	tally.Accesses(caps, l)
	tally.Width(caps, l)
}
