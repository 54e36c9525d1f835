package machine_test

import (
	"fmt"
	"math"
	"reflect"
	"slices"
	"strings"
	"testing"

	"plait/api"
	"plait/chans"
	"plait/locks"
	"plait/machine"
	"plait/once"
	"plait/samples"
)

var kinds = []string{"begin", "go", "send", "sent", "recv", "got", "none", "close", "select", "default", "lock", "locked", "unlock", "do", "end", "skip", "read", "write"}

// show writes events short: whose, what, of what, #No and @Start where they are something.
func show(l []api.Event) string {
	var all []string
	for _, e := range l {
		s := fmt.Sprintf("%d:%s%d", e.G, kinds[e.Kind], e.Obj)
		if e.Kind == api.ESent || e.Kind == api.EGot || e.No != 0 {
			s += fmt.Sprintf("#%d", e.No)
		}
		if e.Start != -1 {
			s += fmt.Sprintf("@%d", e.Start)
		}
		all = append(all, s)
	}
	return strings.Join(all, " ")
}

// play makes the choices, and answers the world and all events.
func play(t *testing.T, p api.Prog, choices ...api.Choice) (api.World, []api.Event) {
	t.Helper()
	w, all, why := machine.New(p)
	if why != api.OK {
		t.Fatal(why)
	}
	for i, c := range choices {
		if !slices.Contains(machine.Choices(w), c) {
			t.Fatal(i, c, "not of", machine.Choices(w), show(all))
		}
		next, news, why := machine.Step(w, c)
		if why != api.OK || next.Events != w.Events+len(news) {
			t.Fatal(i, c, next, news, why)
		}
		w = next
		all = append(all, news...)
	}
	return w, all
}

// by are choices of goroutines, none by a case.
func by(l ...int) []api.Choice {
	var all []api.Choice
	for _, g := range l {
		all = append(all, api.Choice{G: g, Case: -1})
	}
	return all
}

// tried is a program, what is chosen, and what comes of it.
type tried struct {
	name    string
	head    api.Prog
	blocks  []string
	choices []api.Choice
	want    string
	status  int
}

func try(t *testing.T, all []tried) {
	for _, x := range all {
		t.Run(x.name, func(t *testing.T) {
			w, l := play(t, samples.Of(x.head, x.blocks...), x.choices...)
			if got := show(l); got != x.want || w.Status != x.status || w.Events != len(l) {
				t.Errorf("%s\nnot %s\nstatus %d events %d", got, x.want, w.Status, w.Events)
			}
			if len(machine.Choices(w)) > 0 != (w.Status == api.SRun) {
				t.Error(machine.Choices(w))
			}
		})
	}
}

func caps(l ...int) api.Prog { return api.Prog{Caps: l, Vars: 4, Mutexes: 2, Onces: 2} }

func selecting(p api.Prog, isDefault bool, cases ...api.Case) api.Prog {
	p.Selects = []api.Select{{}, {Cases: cases, Default: isDefault}}
	return p
}

func to(n int) api.Case   { return api.Case{Send: true, Chan: n} }
func from(n int) api.Case { return api.Case{Chan: n} }

func TestPlainSteps(t *testing.T) {
	try(t, []tried{
		{"nothing", api.Prog{}, []string{""}, nil, "0:begin0", api.SDone},
		{"on its way", caps(), []string{"nop"}, nil, "0:begin0", api.SRun},
		{"nop", caps(), []string{"nop; read 3"}, by(0, 0), "0:begin0 0:read3", api.SDone},
		{"jump", caps(), []string{"jump 2; read 0; write 1"}, by(0, 0), "0:begin0 0:write1", api.SDone},
		{"jump to the end", caps(), []string{"jump 2; read 0"}, by(0), "0:begin0", api.SDone},
		{"jump back", caps(), []string{"write 2; jump 0"}, by(0, 0, 0), "0:begin0 0:write2 0:write2", api.SRun},
		{"else goes on", caps(), []string{"else 2; read 0; read 1"}, by(0, 0), "0:begin0 0:read0", api.SRun},
		{"go", caps(), []string{"read 0; go 1", "write 1"}, by(0, 0, 1), "0:begin0 0:read0 0:go1 1:begin0@2 1:write1", api.SDone},
		{"go of an empty block", caps(), []string{"go 1; go 1", ""}, by(0, 0), "0:begin0 0:go1 1:begin0@1 0:go2 2:begin0@3", api.SDone},
		{"go of its own block", caps(), []string{"go 0"}, by(0, 1), "0:begin0 0:go1 1:begin0@1 1:go2 2:begin0@3", api.SRun},
		{"too many", caps(), []string{"go 1; jump 0", ""}, by(0, 0, 0, 0, 0, 0, 0, 0, 0, 0, 0, 0, 0, 0, 0),
			"0:begin0 0:go1 1:begin0@1 0:go2 2:begin0@3 0:go3 3:begin0@5 0:go4 4:begin0@7 0:go5 5:begin0@9 0:go6 6:begin0@11 0:go7 7:begin0@13", api.SLimit},
	})
}

func TestChannels(t *testing.T) {
	two := []string{"go 1; recv 0", "send 0"}
	try(t, []tried{
		{"receiver first", caps(0), two, by(0, 0, 1), "0:begin0 0:go1 1:begin0@1 0:recv0 1:send0 0:got0#0@3 1:sent0#0@4", api.SDone},
		{"sender first", caps(0), two, by(0, 1, 0), "0:begin0 0:go1 1:begin0@1 1:send0 0:recv0 1:sent0#0@3 0:got0#0@4", api.SDone},
		{"by the buffer", caps(1), two, by(0, 1, 0), "0:begin0 0:go1 1:begin0@1 1:send0 1:sent0#0@3 0:recv0 0:got0#0@5", api.SDone},
		{"receiver waits at a buffer", caps(1), two, by(0, 0, 1), "0:begin0 0:go1 1:begin0@1 0:recv0 1:send0 0:got0#0@3 1:sent0#0@4", api.SDone},
		{"a full buffer", caps(1), []string{"go 1; recv 0; recv 0", "send 0; send 0"}, by(0, 1, 1, 0, 0),
			"0:begin0 0:go1 1:begin0@1 1:send0 1:sent0#0@3 1:send0 0:recv0 1:sent0#1@5 0:got0#0@6 0:recv0 0:got0#1@9", api.SDone},
		{"nil", caps(-1), two, by(0, 0, 1), "0:begin0 0:go1 1:begin0@1 0:recv0 1:send0", api.SStuck},
		{"alone", caps(0), []string{"send 0"}, by(0), "0:begin0 0:send0", api.SStuck},
		{"send to a closed one", caps(1), []string{"close 0; send 0"}, by(0, 0), "0:begin0 0:close0 0:send0", api.SPanic},
		{"receive from a closed one", caps(1), []string{"send 0; close 0; recv 0; else 5; nop; recv 0; else 8; nop"}, by(0, 0, 0, 0, 0, 0, 0),
			"0:begin0 0:send0 0:sent0#0@1 0:close0 0:recv0 0:got0#0@4 0:recv0 0:none0@6", api.SDone},
		{"closed, and got again", caps(1, 1), []string{"close 0; send 1; recv 0; else 5; nop; recv 1; else 8; read 0"}, by(0, 0, 0, 0, 0, 0, 0),
			"0:begin0 0:close0 0:send1 0:sent1#0@2 0:recv0 0:none0@4 0:recv1 0:got1#0@6 0:read0", api.SDone},
		{"none, and sent meanwhile", caps(1, 1), []string{"close 0; recv 0; send 1; else 5; read 0; recv 1"}, by(0, 0, 0, 0, 0),
			"0:begin0 0:close0 0:recv0 0:none0@2 0:send1 0:sent1#0@4 0:recv1 0:got1#0@6", api.SDone},
		{"close twice", caps(0), []string{"close 0; close 0"}, by(0, 0), "0:begin0 0:close0", api.SPanic},
		{"close nil", caps(-1), []string{"close 0"}, by(0), "0:begin0", api.SPanic},
		{"close where somebody sends", caps(0), []string{"go 1; close 0", "send 0"}, by(0, 1, 0), "0:begin0 0:go1 1:begin0@1 1:send0", api.SPanic},
		{"close tells all", caps(0), []string{"go 1; go 1; close 0; recv 0", "recv 0; else 3; read 0"}, by(0, 0, 2, 1, 0, 1, 2, 0),
			"0:begin0 0:go1 1:begin0@1 0:go2 2:begin0@3 2:recv0 1:recv0 0:close0 2:none0@5 1:none0@6 0:recv0 0:none0@10", api.SDone},
		{"close and stuck others", caps(0, 0), []string{"go 1; close 0", "recv 1"}, by(0, 1, 0), "0:begin0 0:go1 1:begin0@1 1:recv1 0:close0", api.SStuck},
	})
}

func TestSelects(t *testing.T) {
	open := []string{"go 1; select 1; read 0", "send 0; write 1"}
	try(t, []tried{
		{"default", selecting(caps(0), true, from(0)), open, by(0, 0, 0), "0:begin0 0:go1 1:begin0@1 0:select1 0:default1@3 0:read0", api.SRun},
		{"no cases", selecting(caps(0), false), []string{"select 0"}, by(0), "0:begin0 0:select0", api.SStuck},
		{"ready", selecting(caps(0), true, to(0), from(0)), open, append(by(0, 1), api.Choice{G: 0, Case: 1}),
			"0:begin0 0:go1 1:begin0@1 1:send0 0:select1 1:sent0#0@3 0:got0#0@4", api.SRun},
		{"waits at each case", selecting(caps(0, 0, 0), false, from(1), to(2), from(0), from(0)), open, by(0, 0, 1),
			"0:begin0 0:go1 1:begin0@1 0:select1 1:send0 0:got0#0@3 1:sent0#0@4", api.SRun},
		{"sends in a case", selecting(caps(0, 1), false, from(0), to(1)), []string{"select 1"}, []api.Choice{{G: 0, Case: 1}}, "0:begin0 0:select1 0:sent1#0@1", api.SDone},
		{"panics in a case", selecting(caps(0), true, to(0)), []string{"close 0; select 1"}, []api.Choice{{G: 0, Case: -1}, {G: 0, Case: 0}}, "0:begin0 0:close0 0:select1", api.SPanic},
		{"closed in a case", selecting(caps(0), true, from(0)), []string{"close 0; select 1; else 4; read 0"}, []api.Choice{{G: 0, Case: -1}, {G: 0, Case: 0}, {G: 0, Case: -1}}, "0:begin0 0:close0 0:select1 0:none0@2", api.SDone},
		{"told once by a close", selecting(caps(0, 0), false, from(1), from(0), from(0)), []string{"go 1; close 0", "select 1; else 3; read 0"}, by(0, 1, 0, 1),
			"0:begin0 0:go1 1:begin0@1 1:select1 0:close0 1:none0@3", api.SDone},
		{"not with itself", selecting(caps(0), false, from(0), to(0)), []string{"select 1"}, by(0), "0:begin0 0:select1", api.SStuck},
		{"nil in a case", selecting(caps(-1), false, from(0), to(0)), []string{"select 1"}, by(0), "0:begin0 0:select1", api.SStuck},
		{"two selects", selecting(caps(0), false, from(0), to(0)), []string{"go 1; select 1", "select 1"}, append(by(0, 0), api.Choice{G: 1, Case: 0}),
			"0:begin0 0:go1 1:begin0@1 0:select1 1:select1 0:sent0#0@3 1:got0#0@4", api.SDone},
	})
}

func TestMutexesAndOnces(t *testing.T) {
	lock := []string{"go 1; lock 1; unlock 1", "lock 1; unlock 1"}
	do := []string{"go 1; once 1 4; write 0; end 1; read 0", "once 1 3; write 1; end 1; read 1"}
	try(t, []tried{
		{"lock", caps(), lock, by(0, 0, 0, 1, 1), "0:begin0 0:go1 1:begin0@1 0:lock1 0:locked1@3 0:unlock1 1:lock1 1:locked1@6 1:unlock1", api.SDone},
		{"waits for it", caps(), lock, by(0, 0, 1, 0, 1), "0:begin0 0:go1 1:begin0@1 0:lock1 0:locked1@3 1:lock1 0:unlock1 1:locked1@5 1:unlock1", api.SDone},
		{"unlock too early", caps(), []string{"unlock 0"}, by(0), "0:begin0", api.SPanic},
		{"lock twice", caps(), []string{"lock 0; lock 0"}, by(0, 0), "0:begin0 0:lock0 0:locked0@1 0:lock0", api.SStuck},
		{"unlocked by another one", caps(), []string{"go 1; lock 0", "unlock 0"}, by(0, 0, 1), "0:begin0 0:go1 1:begin0@1 0:lock0 0:locked0@3 1:unlock0", api.SDone},
		{"once, and later", caps(), do, by(0, 0, 0, 0, 1, 1), "0:begin0 0:go1 1:begin0@1 0:do1 0:write0 0:end1 1:do1 1:skip1@6 1:read1", api.SRun},
		{"once, meanwhile", caps(), do, by(0, 1, 0, 1, 1, 0), "0:begin0 0:go1 1:begin0@1 1:do1 0:do1 1:write1 1:end1 0:skip1@4 0:read0", api.SRun},
		{"once in itself", caps(), []string{"once 0 2; once 0 2"}, by(0, 0), "0:begin0 0:do0 0:do0", api.SStuck},
		{"end too early", caps(), []string{"end 0"}, by(0), "0:begin0", api.SPanic},
		{"end twice", caps(), []string{"once 0 1; end 0; end 0"}, by(0, 0, 0), "0:begin0 0:do0 0:end0", api.SPanic},
		{"end of another one", caps(), []string{"go 1; once 0 1", "end 0"}, by(0, 0, 1), "0:begin0 0:go1 1:begin0@1 0:do0", api.SPanic},
		{"skip to the end", caps(), []string{"once 0 1; end 0; once 0 4; read 0"}, by(0, 0, 0), "0:begin0 0:do0 0:end0 0:do0 0:skip0@3", api.SDone},
	})
}

func TestChoices(t *testing.T) {
	p := selecting(caps(0, 1), true, from(0), to(1), from(0), from(1))
	p = samples.Of(p, "go 1; go 2; select 1; nop", "send 0", "nop; recv 1")
	w, _ := play(t, p, by(0, 0)...)
	if l := machine.Choices(w); !slices.Equal(l, []api.Choice{{G: 0, Case: 1}, {G: 1, Case: -1}, {G: 2, Case: -1}}) {
		t.Error(l)
	}
	w, _ = play(t, p, by(0, 0, 1, 2)...)
	if l := machine.Choices(w); !slices.Equal(l, []api.Choice{{G: 0, Case: 0}, {G: 0, Case: 1}, {G: 0, Case: 2}, {G: 2, Case: -1}}) {
		t.Error(l)
	}
	for _, c := range []api.Choice{{G: 0, Case: -1}, {G: 0, Case: 3}, {G: 0, Case: 4}, {G: 1, Case: -1}, {G: 2, Case: 0}, {G: 3, Case: -1}, {G: -1, Case: -1}, {G: math.MinInt, Case: math.MaxInt}} {
		if n, l, why := machine.Step(w, c); !reflect.DeepEqual(n, api.World{}) || len(l) > 0 || why != api.ErrNone {
			t.Error(c, n, l, why)
		}
	}
	q := samples.Of(caps(), "nop")
	w, _ = play(t, q, by(0)...)
	if _, _, why := machine.Step(w, api.Choice{Case: -1}); why != api.ErrNone {
		t.Error("done", why)
	}
}

func TestWhoLeaves(t *testing.T) {
	p := selecting(caps(0, 0), false, from(0), from(1), to(1), to(0))
	w, _ := play(t, samples.Of(p, "go 1; select 1", "send 0"), by(0, 0)...)
	if len(w.Chans[0].Recvs) != 1 || len(w.Chans[0].Sends) != 1 || len(w.Chans[1].Recvs) != 1 || len(w.Chans[1].Sends) != 1 || w.Chans[1].Sends[0] != (api.Wait{G: 0, Case: 2, Start: 3}) {
		t.Error(w.Chans)
	}
	w, _, _ = machine.Step(w, api.Choice{G: 1, Case: -1})
	for _, c := range w.Chans {
		if len(c.Sends)+len(c.Recvs) > 0 {
			t.Error(c)
		}
	}
}

// TestWhoWaits: by what wait one is where it waits, which Choices and Step do not tell.
func TestWhoWaits(t *testing.T) {
	p := samples.Of(caps(0, 0), "go 1; go 2; go 3; lock 1; once 1 6; nop", "send 0", "recv 1", "lock 1")
	w, _ := play(t, p, by(0, 0, 0, 0, 0, 1, 2, 3)...)
	at := func(g, start int) []api.Wait { return []api.Wait{{G: g, Start: start}} }
	if !slices.Equal(w.Chans[0].Sends, at(1, 10)) || !slices.Equal(w.Chans[1].Recvs, at(2, 11)) || !slices.Equal(w.Locks[1].Queue, at(3, 12)) {
		t.Error(w.Chans, w.Locks)
	}
	p = samples.Of(caps(), "go 1; once 1 3; end 1", "once 1 1")
	w, _ = play(t, p, by(0, 0, 1)...)
	if o := w.Onces[1]; o.State != api.ODoes || o.By != 0 || !slices.Equal(o.Queue, at(1, 4)) {
		t.Error(w.Onces)
	}
}

func TestNewWrong(t *testing.T) {
	for _, p := range []api.Prog{{}, {Vars: 5, Blocks: make([][]api.Instr, 1)}, {Blocks: [][]api.Instr{{{Op: 14}}}}} {
		if w, l, why := machine.New(p); !reflect.DeepEqual(w, api.World{}) || len(l) > 0 || why != api.ErrArg {
			t.Error(p, w, l, why)
		}
	}
	w, _ := play(t, samples.Of(caps(-1, 3, 0), "nop"))
	if len(w.Chans) != 3 || w.Chans[0].Cap != -1 || w.Chans[1].Cap != 3 || len(w.Locks) != 2 || len(w.Onces) != 2 || len(w.Gors) != 1 || w.Events != 1 {
		t.Error(w)
	}
}

// whole tells whether a world that steps lead to keeps P12.3, and what its parts promise.
func whole(t *testing.T, w api.World) {
	t.Helper()
	ready, waiting := 0, 0
	for _, g := range w.Gors {
		if g.State == api.GReady {
			ready++
		}
		if g.State == api.GWait {
			waiting++
		}
	}
	at := map[int]bool{}
	note := func(l []api.Wait) {
		for _, x := range l {
			at[x.G] = true
			if w.Gors[x.G].State != api.GWait || x.Start >= w.Events {
				t.Fatal("nobody waits", x, w)
			}
		}
	}
	for _, c := range w.Chans {
		note(c.Sends)
		note(c.Recvs)
		if !chans.Right(c) {
			t.Fatal(c)
		}
	}
	for _, l := range w.Locks {
		note(l.Queue)
		if !locks.Right(l) {
			t.Fatal(l)
		}
	}
	for _, o := range w.Onces {
		note(o.Queue)
		if !once.Right(o) {
			t.Fatal(o)
		}
	}
	if len(at) > waiting {
		t.Fatal(w)
	}
	if over := ready == 0; w.Status == api.SRun == over || w.Status == api.SDone && waiting > 0 || w.Status == api.SStuck && waiting == 0 {
		t.Fatal(w)
	}
	if len(machine.Choices(w)) > 0 != (w.Status == api.SRun) {
		t.Fatal(w)
	}
}

func TestMadeWorlds(t *testing.T) {
	var ends [6]int
	for n := range 400 {
		w, _, why := machine.New(samples.Made(n))
		if why != api.OK {
			t.Fatal(n, why)
		}
		for _, pick := range samples.Picks(n, 150) {
			l := machine.Choices(w)
			if len(l) == 0 {
				break
			}
			c := l[(pick%len(l)+len(l))%len(l)]
			next, news, why := machine.Step(w, c)
			if why != api.OK || next.Events != w.Events+len(news) {
				t.Fatal(n, next, why)
			}
			for g, gor := range w.Gors {
				if g != c.G && gor.State == api.GReady && !reflect.DeepEqual(gor, next.Gors[g]) {
					t.Fatal("another one that does not wait goes on", n, g)
				}
			}
			w = next
			if w.Status != api.SPanic && w.Status != api.SLimit {
				whole(t, w)
			}
		}
		ends[w.Status]++
	}
	for _, status := range []int{api.SRun, api.SDone, api.SStuck, api.SPanic, api.SLimit} {
		if ends[status] == 0 {
			t.Error("none ends with", status, ends)
		}
	}
}

// TestOtherWorlds is P1: whatever world is handed in, the call ends.
func TestOtherWorlds(t *testing.T) {
	if l := machine.Choices(api.World{}); len(l) > 0 {
		t.Error(l)
	}
	good, _ := play(t, samples.Of(selecting(caps(0, 1), true, from(0), to(1)), "go 1; send 0; recv 1; lock 0; unlock 0; once 0 6; end 0; close 0; select 1", "recv 0; send 1; lock 0; unlock 0; once 0 5; end 0"), by(0)...)
	stray := []api.Wait{{G: 99}}
	for place := range 10 {
		for _, change := range []func(w *api.World){
			func(w *api.World) {},
			func(w *api.World) { w.Prog = api.Prog{} },
			func(w *api.World) { w.Prog.Blocks = nil },
			func(w *api.World) { w.Chans = nil },
			func(w *api.World) { w.Locks = nil },
			func(w *api.World) { w.Onces = nil },
			func(w *api.World) { w.Events = math.MinInt },
			func(w *api.World) { w.Events = math.MaxInt },
			func(w *api.World) { w.Gors[1].Block = 7 },
			func(w *api.World) { w.Gors[1].Block = -1 },
			func(w *api.World) { w.Gors[1].Pc = -1 },
			func(w *api.World) { w.Gors[1].Pc = 99 },
			func(w *api.World) { w.Gors[1] = api.Gor{Block: 1, Pc: 6} },
			func(w *api.World) { w.Gors[1] = api.Gor{Block: 1, Pc: 6, State: api.GWait} },
			func(w *api.World) { w.Gors[1].State = 17 },
			func(w *api.World) { w.Gors = slices.Repeat(w.Gors, 50) },
			func(w *api.World) { w.Chans[0] = api.Chan{Recvs: stray} },
			func(w *api.World) { w.Chans[0] = api.Chan{Sends: stray} },
			func(w *api.World) { w.Chans[0] = api.Chan{Recvs: []api.Wait{{G: 1}, {G: 1, Case: 9}}} },
			func(w *api.World) { w.Chans[0] = api.Chan{Sends: []api.Wait{{G: 1, Start: -9}}} },
			func(w *api.World) { w.Chans[1] = api.Chan{Cap: 9, Buf: api.Ring{Cap: -4}} },
			func(w *api.World) { w.Locks[0] = api.Lock{Held: true, Queue: stray} },
			func(w *api.World) { w.Locks[0] = api.Lock{Queue: []api.Wait{{G: 1}}} },
			func(w *api.World) { w.Locks[0] = api.Lock{Held: true, Queue: []api.Wait{{G: 1}}} },
			func(w *api.World) { w.Onces[0] = api.Once{State: api.ODoes, Queue: stray} },
			func(w *api.World) { w.Onces[0] = api.Once{State: 12} },
			func(w *api.World) { w.Onces[0] = api.Once{State: api.ODoes, By: 0, Queue: []api.Wait{{G: 1}}} },
			func(w *api.World) {
				w.Gors[1].Pc = 6
				w.Onces[0] = api.Once{State: api.ODoes, Queue: []api.Wait{{G: 1}}}
			},
		} {
			w := good
			w.Gors, w.Chans, w.Locks, w.Onces = slices.Clone(w.Gors), slices.Clone(w.Chans), slices.Clone(w.Locks), slices.Clone(w.Onces)
			w.Gors[0].Pc = place
			change(&w)
			for _, c := range append(machine.Choices(w), by(0, 1, 2, 7)...) {
				machine.Step(w, c)
			}
		}
	}
}

// copied is a world in lists of its own.
func copied(w api.World) api.World {
	w.Prog.Caps, w.Prog.Selects, w.Prog.Blocks = slices.Clone(w.Prog.Caps), slices.Clone(w.Prog.Selects), slices.Clone(w.Prog.Blocks)
	for i := range w.Prog.Selects {
		w.Prog.Selects[i].Cases = slices.Clone(w.Prog.Selects[i].Cases)
	}
	for i := range w.Prog.Blocks {
		w.Prog.Blocks[i] = slices.Clone(w.Prog.Blocks[i])
	}
	w.Gors, w.Chans, w.Locks, w.Onces = slices.Clone(w.Gors), slices.Clone(w.Chans), slices.Clone(w.Locks), slices.Clone(w.Onces)
	for i := range w.Chans {
		c := &w.Chans[i]
		c.Buf.Slots, c.Sends, c.Recvs = slices.Clone(c.Buf.Slots), slices.Clone(c.Sends), slices.Clone(c.Recvs)
	}
	for i := range w.Locks {
		w.Locks[i].Queue = slices.Clone(w.Locks[i].Queue)
	}
	for i := range w.Onces {
		w.Onces[i].Queue = slices.Clone(w.Onces[i].Queue)
	}
	return w
}

// TestArgumentsStayAsTheyAre is R1 and R4: a world can be gone on from again, whatever was made of it.
func TestArgumentsStayAsTheyAre(t *testing.T) {
	for n := range 100 {
		w, _, _ := machine.New(samples.Made(n))
		for _, pick := range samples.Picks(n, 60) {
			l := machine.Choices(w)
			if len(l) == 0 {
				break
			}
			before := copied(w)
			var next api.World
			for i, c := range l {
				x, news, _ := machine.Step(w, c)
				kept, told := copied(x), slices.Clone(news)
				again, olds, _ := machine.Step(w, c)
				if !reflect.DeepEqual(kept, copied(again)) || !slices.Equal(told, olds) || !reflect.DeepEqual(copied(x), kept) {
					t.Fatal("not the same again", n, c)
				}
				if i == (pick%len(l)+len(l))%len(l) {
					next = x
				}
			}
			if !reflect.DeepEqual(before, w) {
				t.Fatal("changed", n)
			}
			w = next
		}
	}
}
