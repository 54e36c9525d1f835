package samples

import "plait/api"

// longest is how many instructions a made block has before no more are added: what is added at once is shorter than the rest.
const longest = 12

// dice tells numbers that look as if they were thrown, always the same ones from the same beginning.
type dice struct {
	state uint64
}

// below is a number of 0 to one less than n.
func (d *dice) below(n int) int {
	d.state = d.state*6364136223846793005 + 1442695040888963407
	return int(d.state>>33) % n
}

// Made is the program of a number: a right one, of all ops.
func Made(number int) api.Prog {
	d := &dice{uint64(number)}
	for range 4 {
		d.below(1) // near numbers are near at first
	}
	p := api.Prog{Mutexes: 1 + d.below(2), Onces: 1 + d.below(2), Vars: 1 + d.below(2)}
	for range 1 + d.below(3) {
		p.Caps = append(p.Caps, d.below(9)*4/9)
	}
	if d.below(8) == 0 {
		p.Caps[0] = -1
	}
	for range 1 + d.below(2) {
		p.Selects = append(p.Selects, d.choice(len(p.Caps)))
	}
	blocks := 2 + d.below(3)
	p.Blocks = make([][]api.Instr, blocks)
	for b := range p.Blocks {
		p.Blocks[b] = d.block(p, b)
	}
	return p
}

// Picks are picks of a number.
func Picks(number, n int) []int {
	d := &dice{uint64(number) * 77}
	l := make([]int, n)
	for i := range l {
		l[i] = d.below(1000) - 100
	}
	return l
}

func (d *dice) choice(channels int) api.Select {
	s := api.Select{Default: d.below(3) == 0}
	for range d.below(4) {
		s.Cases = append(s.Cases, api.Case{Send: d.below(2) == 0, Chan: d.below(channels)})
	}
	return s
}

func (d *dice) block(p api.Prog, b int) []api.Instr {
	var l []api.Instr
	if b == 0 {
		for other := 1; other < len(p.Blocks); other++ {
			l = append(l, api.Instr{Op: api.OpGo, A: other})
		}
	}
	for range 2 + d.below(5) {
		if len(l) < longest {
			l = append(l, d.some(p, len(l))...)
		}
	}
	return l
}

// some are instructions that make sense together, to stand from a place on.
func (d *dice) some(p api.Prog, place int) []api.Instr {
	access := api.Instr{Op: api.OpRead + d.below(2), A: d.below(p.Vars)}
	channel := d.below(len(p.Caps))
	mutex, once := d.below(p.Mutexes), d.below(p.Onces)
	switch d.below(16) {
	case 0, 1, 2:
		return []api.Instr{access}
	case 3, 4:
		return []api.Instr{{Op: api.OpSend, A: channel}}
	case 5, 6:
		return []api.Instr{{Op: api.OpRecv, A: channel}}
	case 7, 8:
		return []api.Instr{{Op: api.OpLock, A: mutex}, access, {Op: api.OpUnlock, A: mutex}}
	case 9:
		return []api.Instr{{Op: api.OpOnce, A: once, B: place + 3}, access, {Op: api.OpEnd, A: once}}
	case 10:
		return []api.Instr{{Op: api.OpClose, A: channel}}
	case 11:
		return []api.Instr{{Op: api.OpRecv, A: channel}, {Op: api.OpElse, A: place + 3}, access}
	case 12:
		return []api.Instr{d.rare(p, place)}
	}
	return []api.Instr{{Op: api.OpSelect, A: d.below(len(p.Selects))}, access}
}

func (d *dice) rare(p api.Prog, place int) api.Instr {
	switch d.below(6) {
	case 0:
		return api.Instr{Op: api.OpUnlock, A: d.below(p.Mutexes)}
	case 1:
		return api.Instr{Op: api.OpEnd, A: d.below(p.Onces)}
	case 2:
		return api.Instr{Op: api.OpGo, A: d.below(len(p.Blocks))}
	case 3:
		return api.Instr{Op: api.OpJump, A: d.below(place + 1)}
	case 4:
		return api.Instr{Op: api.OpLock, A: d.below(p.Mutexes)}
	}
	return api.Instr{}
}
