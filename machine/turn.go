package machine

import (
	"plait/api"
	"plait/chans"
	"plait/locks"
	"plait/once"
)

// What once.Do tells of one who comes; any other waits.
const (
	doesIt  = 0
	skipsIt = 2
)

// turn is a step on its way: the world as it comes to be, whose step it is, by which case and which instruction, at which event it begins, and what has happened.
type turn struct {
	api.World
	g, by int
	in    api.Instr
	start int
	news  []api.Event
}

// steps is what is done, by instructions' ops.
func steps() [api.OpElse + 1]func(*turn) api.Errno {
	return [api.OpElse + 1]func(*turn) api.Errno{
		api.OpNop:    (*turn).nop,
		api.OpSend:   (*turn).send,
		api.OpRecv:   (*turn).recv,
		api.OpClose:  (*turn).shut,
		api.OpSelect: (*turn).choose,
		api.OpLock:   (*turn).lock,
		api.OpUnlock: (*turn).unlock,
		api.OpOnce:   (*turn).do,
		api.OpEnd:    (*turn).end,
		api.OpGo:     (*turn).begin,
		api.OpRead:   (*turn).read,
		api.OpWrite:  (*turn).write,
		api.OpJump:   (*turn).jump,
		api.OpElse:   (*turn).orElse,
	}
}

func (t *turn) nop() api.Errno {
	t.goOn(t.g)
	return api.OK
}

func (t *turn) jump() api.Errno {
	t.goTo(t.g, t.in.A)
	return api.OK
}

func (t *turn) orElse() api.Errno {
	if t.Gors[t.g].Closed {
		return t.jump()
	}
	return t.nop()
}

func (t *turn) read() api.Errno {
	t.happens(api.ERead)
	return t.nop()
}

func (t *turn) write() api.Errno {
	t.happens(api.EWrite)
	return t.nop()
}

func (t *turn) send() api.Errno {
	t.happens(api.ESend)
	return t.pass(true, t.in.A, t.wait(0))
}

func (t *turn) recv() api.Errno {
	t.happens(api.ERecv)
	return t.pass(false, t.in.A, t.wait(0))
}

func (t *turn) choose() api.Errno {
	t.happens(api.ESelect)
	s := t.Prog.Selects[t.in.A]
	if t.by != api.NoOne {
		c := s.Cases[t.by]
		return t.pass(c.Send, c.Chan, t.wait(t.by))
	}
	if s.Default {
		t.tell(api.Event{G: t.g, Kind: api.EDefault, Obj: t.in.A, Start: t.start})
		return t.nop()
	}
	for i, c := range s.Cases {
		if _, why := t.call(c.Send, c.Chan, t.wait(i)); why != api.OK {
			return why
		}
	}
	t.stay()
	return api.OK
}

func (t *turn) shut() api.Errno {
	next, told, panics, why := chans.Close(t.Chans[t.in.A])
	if why != api.OK {
		return why
	}
	if panics {
		return t.stop(api.SPanic)
	}
	t.Chans[t.in.A] = next
	t.happens(api.EClose)
	t.goOn(t.g)
	var seen [api.MaxLive]bool // one select may wait at one channel by several cases
	for _, w := range told {
		if seen[w.G] {
			continue
		}
		seen[w.G] = true
		if why := t.done(w, api.ENone, t.in.A, 0); why != api.OK {
			return why
		}
	}
	return api.OK
}

func (t *turn) lock() api.Errno {
	t.happens(api.ELock)
	next, is, why := locks.Take(t.Locks[t.in.A], t.wait(0))
	if why != api.OK {
		return why
	}
	t.Locks[t.in.A] = next
	if is {
		t.locked(t.wait(0))
	} else {
		t.stay()
	}
	return api.OK
}

func (t *turn) unlock() api.Errno {
	next, w, is, why := locks.Give(t.Locks[t.in.A])
	if why == api.ErrState {
		return t.stop(api.SPanic)
	}
	if why != api.OK {
		return why
	}
	t.Locks[t.in.A] = next
	t.happens(api.EUnlock)
	t.goOn(t.g)
	if is {
		t.locked(w)
	}
	return api.OK
}

func (t *turn) do() api.Errno {
	t.happens(api.EDo)
	next, how, why := once.Do(t.Onces[t.in.A], t.wait(0))
	if why == api.ErrState { // who does it waits for itself, and nobody will come
		t.stay()
		return api.OK
	}
	if why != api.OK {
		return why
	}
	t.Onces[t.in.A] = next
	switch how {
	case doesIt:
		t.goOn(t.g)
	case skipsIt:
		t.skip(t.wait(0))
	default:
		t.stay()
	}
	return api.OK
}

func (t *turn) end() api.Errno {
	next, told, why := once.End(t.Onces[t.in.A], t.g)
	if why == api.ErrState {
		return t.stop(api.SPanic)
	}
	if why != api.OK {
		return why
	}
	t.Onces[t.in.A] = next
	t.happens(api.EEnd)
	t.goOn(t.g)
	for _, w := range told {
		t.skip(w)
	}
	return api.OK
}

func (t *turn) begin() api.Errno {
	if len(t.Gors) == api.MaxLive {
		return t.stop(api.SLimit)
	}
	n := len(t.Gors)
	t.tell(api.Event{G: t.g, Kind: api.EGo, Obj: n, Start: api.NoOne})
	t.tell(api.Event{G: n, Kind: api.EBegin, Start: t.start})
	t.Gors = append(t.Gors, api.Gor{Block: t.in.A})
	t.goTo(n, 0)
	t.goOn(t.g)
	return api.OK
}

// pass makes a send or a receive, and tells what came of it; the other side is done with first.
func (t *turn) pass(send bool, channel int, w api.Wait) api.Errno {
	o, why := t.call(send, channel, w)
	if why != api.OK {
		return why
	}
	switch o.Kind {
	case api.KWait:
		t.stay()
		return api.OK
	case api.KPanic:
		return t.stop(api.SPanic)
	case api.KClosed:
		return t.done(w, api.ENone, channel, 0)
	}
	mine, others := api.EGot, api.ESent
	if send {
		mine, others = others, mine
	}
	if o.Who.G != api.NoOne {
		if why := t.done(o.Who, others, channel, o.Other); why != api.OK {
			return why
		}
	}
	return t.done(w, mine, channel, o.No)
}

// call has a wait at a channel, and leaves the channel as it is then.
func (t *turn) call(send bool, channel int, w api.Wait) (api.Outcome, api.Errno) {
	side := chans.Recv
	if send {
		side = chans.Send
	}
	next, o, why := side(t.Chans[channel], w)
	if why == api.OK {
		t.Chans[channel] = next
	}
	return o, why
}

// done is done with one at a channel: wherever else it waited by other cases, it does no more.
func (t *turn) done(w api.Wait, kind, channel, no int) api.Errno {
	t.tell(api.Event{G: w.G, Kind: kind, Obj: channel, No: no, Start: w.Start})
	if kind != api.ESent {
		t.Gors[w.G].Closed = kind == api.ENone
	}
	t.goOn(w.G)
	for i, c := range t.Chans {
		next, why := chans.Leave(c, w.G)
		if why != api.OK {
			return why
		}
		t.Chans[i] = next
	}
	return api.OK
}

// locked has one have the mutex, and go on.
func (t *turn) locked(w api.Wait) {
	t.tell(api.Event{G: w.G, Kind: api.ELocked, Obj: t.in.A, Start: w.Start})
	t.goOn(w.G)
}

// skip has one go on behind what was done once by another one.
func (t *turn) skip(w api.Wait) {
	t.tell(api.Event{G: w.G, Kind: api.ESkip, Obj: t.in.A, Start: w.Start})
	t.goTo(w.G, instr(t.World, w.G).B)
}

// happens tells the event that begins something, by who makes the step, of what its instruction is of.
func (t *turn) happens(kind int) {
	t.tell(api.Event{G: t.g, Kind: kind, Obj: t.in.A, Start: api.NoOne})
}

func (t *turn) tell(e api.Event) {
	t.news = append(t.news, e)
	t.Events++
}

// wait is that of who makes the step.
func (t *turn) wait(by int) api.Wait { return api.Wait{G: t.g, Case: by, Start: t.start} }

func (t *turn) stay() { t.Gors[t.g].State = api.GWait }

func (t *turn) goOn(g int) { t.goTo(g, t.Gors[g].Pc+1) }

func (t *turn) goTo(g, place int) {
	gor := &t.Gors[g]
	gor.Pc, gor.State = place, api.GReady
	if place >= len(t.Prog.Blocks[gor.Block]) {
		gor.State = api.GDone
	}
}

// stop ends all of it: nobody goes on any more.
func (t *turn) stop(status int) api.Errno {
	t.Status = status
	return api.OK
}

// settle tells whether it is over, behind a step.
func (t *turn) settle() {
	if t.Status != api.SRun {
		return
	}
	over := api.SDone
	for _, gor := range t.Gors {
		if gor.State == api.GReady {
			return
		}
		if gor.State != api.GDone {
			over = api.SStuck
		}
	}
	t.Status = over
}
