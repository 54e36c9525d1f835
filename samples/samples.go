// Package samples are programs to try the layers on: the document's examples, and one for each number.
package samples

import (
	"plait/api"
	"plait/text"
)

// Sample is a program, and what it is to show.
type Sample struct {
	Name string
	Prog api.Prog
}

// Of is a program with just the blocks of these texts; one that is not right, if one of these is no block's.
func Of(head api.Prog, blocks ...string) api.Prog {
	head.Blocks = nil
	for _, b := range blocks {
		block, _, why := text.Parse(b)
		if why != api.OK {
			return api.Prog{}
		}
		head.Blocks = append(head.Blocks, block)
	}
	return head
}

// All are the document's examples of the whole, as far as they are programs, and some more of waiting.
func All() []Sample {
	one := api.Prog{Vars: 1}
	chan0 := api.Prog{Vars: 1, Caps: []int{0}}
	chan1 := api.Prog{Vars: 1, Caps: []int{1}}
	locked := api.Prog{Vars: 1, Mutexes: 1}
	once := api.Prog{Vars: 1, Onces: 1}
	try := api.Prog{Vars: 1, Caps: []int{0}, Selects: []api.Select{{Cases: []api.Case{{Chan: 0}}, Default: true}}}
	both := api.Prog{Vars: 2, Caps: []int{0, 0, 2}, Selects: []api.Select{
		{Cases: []api.Case{{Chan: 0}, {Send: true, Chan: 1}, {Chan: 2}, {Chan: 0}}},
		{Cases: []api.Case{{Chan: 1}, {Send: true, Chan: 0}}},
	}}
	return []Sample{
		{"two writes", Of(one, "go 1; write 0", "write 0")},
		{"sent without room", Of(chan0, "go 1; recv 0; write 0", "write 0; send 0")},
		{"sent with room", Of(chan1, "go 1; recv 0; write 0", "write 0; send 0")},
		{"received without room", Of(chan0, "go 1; send 0; write 0", "write 0; recv 0")},
		{"received with room", Of(chan1, "go 1; send 0; write 0", "write 0; recv 0")},
		{"closed", Of(chan0, "go 1; go 1; write 0; close 0", "recv 0; read 0")},
		{"locked", Of(locked, "go 1; go 1; lock 0; write 0; unlock 0", "lock 0; read 0; write 0; unlock 0")},
		{"once", Of(once, "go 1; go 1; once 0 5; write 0; end 0; read 0", "once 0 3; write 0; end 0; read 0")},
		{"default", Of(try, "go 1; write 0; send 0", "select 0; write 0")},
		{"closed twice", Of(chan0, "go 1; close 0", "close 0")},
		{"stuck", Of(chan0, "go 1; recv 0", "recv 0")},
		{"select", Of(both, "go 1; go 2; select 0; write 0; select 0; write 1", "select 1; write 0; select 1; write 1", "send 2; write 0; recv 1; read 1")},
		{"round and round", Of(chan1, "go 1; recv 0; else 4; jump 1; read 0", "send 0; send 0; write 0; send 0; close 0")},
		{"more and more", Of(one, "write 0; go 0; read 0")},
		{"nothing", Of(api.Prog{}, "")},
	}
}
