package prog_test

import (
	"math"
	"slices"
	"testing"

	"plait/api"
	"plait/prog"
)

// full is a program that has as many of everything as may be, and each op.
func full() api.Prog {
	p := api.Prog{Caps: []int{-1, 0, 1, 3}, Mutexes: 2, Onces: 2, Vars: 4}
	for range 4 {
		p.Selects = append(p.Selects, api.Select{Cases: []api.Case{{Chan: 3}, {Send: true}, {Chan: 1}, {Chan: 2}}, Default: true})
	}
	all := []api.Instr{
		{Op: api.OpNop}, {Op: api.OpSend, A: 3}, {Op: api.OpRecv, A: 3}, {Op: api.OpClose, A: 3}, {Op: api.OpSelect, A: 3},
		{Op: api.OpLock, A: 1}, {Op: api.OpUnlock, A: 1}, {Op: api.OpOnce, A: 1, B: 14}, {Op: api.OpEnd, A: 1}, {Op: api.OpGo, A: 5},
		{Op: api.OpRead, A: 3}, {Op: api.OpWrite, A: 3}, {Op: api.OpJump, A: 14}, {Op: api.OpElse, A: 14},
	}
	p.Blocks = [][]api.Instr{all, nil, make([]api.Instr, 24), nil, nil, nil}
	return p
}

// count is how many numbers there are of what A is of, in full's first block: the edges of P6.1's ErrRange.
var count = []int{1, 4, 4, 4, 4, 2, 2, 2, 2, 6, 4, 4, 15, 15}

func wrong(t *testing.T, name string, p api.Prog, b, i int, why api.Errno) {
	t.Helper()
	if gb, gi, got := prog.Wrong(p); gb != b || gi != i || got != why {
		t.Errorf("%s: %d %d %d, not %d %d %d", name, gb, gi, got, b, i, why)
	}
	if prog.Right(p) != (why == api.OK) {
		t.Error(name, "right")
	}
	if why == api.OK {
		return
	}
	if l, got := prog.Reach(p); len(l) != 0 || got != api.ErrArg {
		t.Error(name, l, got)
	}
	for _, op := range []int{0, -1, 14} {
		if n, got := prog.Count(p, op); n != 0 || got != api.ErrArg {
			t.Error(name, op, n, got)
		}
	}
}

func TestFullIsRight(t *testing.T) {
	wrong(t, "full", full(), -1, -1, api.OK)
	wrong(t, "least", api.Prog{Blocks: make([][]api.Instr, 1)}, -1, -1, api.OK)
	wrong(t, "zero", api.Prog{}, -1, -1, api.ErrSize)
	wrong(t, "a select without cases", api.Prog{Selects: make([]api.Select, 1), Blocks: make([][]api.Instr, 1)}, -1, -1, api.OK)
}

func TestWrongTables(t *testing.T) {
	for _, x := range []struct {
		name   string
		change func(*api.Prog)
		at     int
		why    api.Errno
	}{
		{"caps", func(p *api.Prog) { p.Caps = make([]int, 5) }, -1, api.ErrSize},
		{"mutexes", func(p *api.Prog) { p.Mutexes = 3 }, -1, api.ErrSize},
		{"no mutexes", func(p *api.Prog) { p.Mutexes = -1 }, -1, api.ErrSize},
		{"onces", func(p *api.Prog) { p.Onces = 3 }, -1, api.ErrSize},
		{"no onces", func(p *api.Prog) { p.Onces = math.MinInt }, -1, api.ErrSize},
		{"vars", func(p *api.Prog) { p.Vars = 5 }, -1, api.ErrSize},
		{"no vars", func(p *api.Prog) { p.Vars = -1 }, -1, api.ErrSize},
		{"selects", func(p *api.Prog) { p.Selects = make([]api.Select, 5) }, -1, api.ErrSize},
		{"no blocks", func(p *api.Prog) { p.Blocks = nil }, -1, api.ErrSize},
		{"blocks", func(p *api.Prog) { p.Blocks = make([][]api.Instr, 7) }, -1, api.ErrSize},
		{"cap above", func(p *api.Prog) { p.Caps[3] = 4 }, -1, api.ErrRange},
		{"cap below", func(p *api.Prog) { p.Caps[0] = -2 }, -1, api.ErrRange},
		{"size ahead of cap", func(p *api.Prog) { p.Caps[0] = -2; p.Blocks = nil }, -1, api.ErrSize},
		{"cases", func(p *api.Prog) { p.Selects[2].Cases = make([]api.Case, 5) }, 2, api.ErrSize},
		{"case of no channel", func(p *api.Prog) { p.Selects[1].Cases[3].Chan = 4 }, 1, api.ErrRange},
		{"case below", func(p *api.Prog) { p.Selects[0].Cases[0].Chan = -1 }, 0, api.ErrRange},
		{"cap ahead of case", func(p *api.Prog) { p.Caps[1] = 9; p.Selects[0].Cases[0].Chan = -1 }, -1, api.ErrRange},
		{"cases ahead of its case", func(p *api.Prog) { p.Selects[1].Cases = []api.Case{{Chan: 9}, {}, {}, {}, {}} }, 1, api.ErrSize},
		{"the first select ahead", func(p *api.Prog) { p.Selects[1].Cases[0].Chan = 9; p.Selects[2].Cases = make([]api.Case, 5) }, 1, api.ErrRange},
		{"tables ahead of blocks", func(p *api.Prog) { p.Selects[3].Cases[0].Chan = 9; p.Blocks[0] = make([]api.Instr, 25) }, 3, api.ErrRange},
	} {
		p := full()
		x.change(&p)
		wrong(t, x.name, p, -1, x.at, x.why)
	}
}

func TestWrongBlocks(t *testing.T) {
	for _, x := range []struct {
		name   string
		change func(*api.Prog)
		b, i   int
		why    api.Errno
	}{
		{"long", func(p *api.Prog) { p.Blocks[4] = make([]api.Instr, 25) }, 4, -1, api.ErrSize},
		{"long ahead of its instructions", func(p *api.Prog) { p.Blocks[4] = slices.Repeat([]api.Instr{{Op: 99}}, 25) }, 4, -1, api.ErrSize},
		{"the first block ahead", func(p *api.Prog) { p.Blocks[1] = []api.Instr{{}, {A: 1}}; p.Blocks[4] = make([]api.Instr, 25) }, 1, 1, api.ErrRange},
		{"the first instruction ahead", func(p *api.Prog) { p.Blocks[5] = []api.Instr{{}, {B: 1}, {Op: 14}} }, 5, 1, api.ErrRange},
		{"op above", func(p *api.Prog) { p.Blocks[5] = []api.Instr{{Op: 14, A: -1}} }, 5, 0, api.ErrWord},
		{"op below", func(p *api.Prog) { p.Blocks[5] = []api.Instr{{Op: -1}} }, 5, 0, api.ErrWord},
		{"op far off", func(p *api.Prog) { p.Blocks[5] = []api.Instr{{Op: math.MinInt}} }, 5, 0, api.ErrWord},
	} {
		p := full()
		x.change(&p)
		wrong(t, x.name, p, x.b, x.i, x.why)
	}
}

func TestNumbersOfEachOp(t *testing.T) {
	for op, n := range count {
		for _, a := range []int{math.MinInt, -1, 0, n - 1, n, math.MaxInt} {
			p := full()
			p.Blocks[0][op].A = a
			if a >= 0 && a < n {
				wrong(t, "a number", p, -1, -1, api.OK)
			} else {
				wrong(t, "no number", p, 0, op, api.ErrRange)
			}
		}
		last := 0
		if op == api.OpOnce {
			last = 14
		}
		for _, b := range []int{math.MinInt, -1, 0, 1, 14, 15} {
			p := full()
			p.Blocks[0][op].B = b
			if b >= 0 && b <= last {
				wrong(t, "a place", p, -1, -1, api.OK)
			} else {
				wrong(t, "no place", p, 0, op, api.ErrRange)
			}
		}
	}
}

func TestExample(t *testing.T) {
	wrong(t, "send without channels", api.Prog{Blocks: [][]api.Instr{{{Op: api.OpSend}}}}, 0, 0, api.ErrRange)
}

func TestReach(t *testing.T) {
	to := func(l ...int) []api.Instr {
		var block []api.Instr
		for _, b := range l {
			block = append(block, api.Instr{Op: api.OpGo, A: b})
		}
		return block
	}
	for _, x := range []struct {
		blocks [][]api.Instr
		want   []int
	}{
		{[][]api.Instr{nil}, []int{0}},
		{[][]api.Instr{to(0)}, []int{0}},
		{[][]api.Instr{nil, to(0)}, []int{0}},
		{[][]api.Instr{to(5), nil, to(3), to(3), nil, to(2)}, []int{0, 2, 3, 5}},
		{[][]api.Instr{to(4, 1), to(0), to(3), nil, to(4)}, []int{0, 1, 4}},
		{[][]api.Instr{to(5, 4, 3, 2, 1), nil, nil, nil, nil, nil}, []int{0, 1, 2, 3, 4, 5}},
	} {
		if l, why := prog.Reach(api.Prog{Blocks: x.blocks}); !slices.Equal(l, x.want) || why != api.OK {
			t.Error(x, l, why)
		}
	}
}

func TestCount(t *testing.T) {
	p := full()
	p.Blocks[4] = []api.Instr{{Op: api.OpRead}, {Op: api.OpGo}, {Op: api.OpRead, A: 2}}
	for op := range 14 {
		want := 1
		switch op {
		case api.OpNop:
			want = 25
		case api.OpRead:
			want = 3
		case api.OpGo:
			want = 2
		}
		if n, why := prog.Count(p, op); n != want || why != api.OK {
			t.Error(op, n, why)
		}
	}
	for _, op := range []int{-1, 14, math.MinInt, math.MaxInt} {
		if n, why := prog.Count(p, op); n != 0 || why != api.ErrWord {
			t.Error(op, n, why)
		}
	}
}

// TestMore is P6.3: what is right stays so with more, as long as there is not too much.
func TestMore(t *testing.T) {
	p := api.Prog{Caps: []int{0}, Vars: 1, Blocks: [][]api.Instr{{{Op: api.OpSend}, {Op: api.OpWrite}, {Op: api.OpJump, A: 3}}}}
	for _, more := range []func(p *api.Prog){
		func(p *api.Prog) { p.Blocks = append(p.Blocks, []api.Instr{{Op: api.OpGo}}) },
		func(p *api.Prog) { p.Caps = append(p.Caps, -1) },
		func(p *api.Prog) { p.Mutexes++ },
		func(p *api.Prog) { p.Onces++ },
		func(p *api.Prog) { p.Vars++ },
		func(p *api.Prog) { p.Selects = append(p.Selects, api.Select{}) },
	} {
		q := p
		more(&q)
		wrong(t, "more", q, -1, -1, api.OK)
		if l, _ := prog.Reach(q); !slices.Equal(l, []int{0}) {
			t.Error("nobody starts it", l)
		}
	}
}
