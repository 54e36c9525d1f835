package text_test

import (
	"math"
	"slices"
	"strings"
	"testing"

	"plait/api"
	"plait/text"
)

var names = []string{"nop", "send", "recv", "close", "select", "lock", "unlock", "once", "end", "go", "read", "write", "jump", "else"}

func TestName(t *testing.T) {
	for op, want := range names {
		if s, why := text.Name(op); s != want || why != api.OK {
			t.Error(op, s, why)
		}
	}
	for _, op := range []int{-1, 14, math.MinInt, math.MaxInt} {
		if s, why := text.Name(op); s != "" || why != api.ErrArg {
			t.Error(op, s, why)
		}
	}
}

func TestPrint(t *testing.T) {
	for _, x := range []struct {
		l    []api.Instr
		want string
		why  api.Errno
	}{
		{nil, "", api.OK},
		{[]api.Instr{{}}, "nop", api.OK},
		{[]api.Instr{{Op: api.OpGo, A: 1}, {Op: api.OpOnce, B: 4}}, "go 1; once 0 4", api.OK},
		{[]api.Instr{{Op: api.OpElse, A: 999}, {Op: api.OpOnce, A: 999, B: 999}}, "else 999; once 999 999", api.OK},
		{make([]api.Instr, 24), strings.Repeat("nop; ", 23) + "nop", api.OK},
		{make([]api.Instr, 25), "", api.ErrSize},
		{slices.Repeat([]api.Instr{{Op: -1}}, 25), "", api.ErrSize},
		{[]api.Instr{{}, {A: 1}}, "", api.ErrArg},
		{[]api.Instr{{B: 1}}, "", api.ErrArg},
		{[]api.Instr{{Op: 14}}, "", api.ErrArg},
		{[]api.Instr{{Op: -1}}, "", api.ErrArg},
		{[]api.Instr{{Op: 1, B: 1}}, "", api.ErrArg},
		{[]api.Instr{{Op: 1, A: 1000}}, "", api.ErrArg},
		{[]api.Instr{{Op: 1, A: -1}}, "", api.ErrArg},
		{[]api.Instr{{Op: 7, B: 1000}}, "", api.ErrArg},
		{[]api.Instr{{Op: 7, B: -1}}, "", api.ErrArg},
	} {
		if s, why := text.Print(x.l); s != x.want || why != x.why {
			t.Errorf("%v: %q %d", x.l, s, why)
		}
	}
}

func TestParse(t *testing.T) {
	longest := "nop; " + strings.Repeat("x", 995)
	for _, x := range []struct {
		text string
		want []api.Instr
		at   int
		why  api.Errno
	}{
		{"", nil, 0, api.OK},
		{"nop", []api.Instr{{}}, 0, api.OK},
		{"go 1; once 0 4", []api.Instr{{Op: api.OpGo, A: 1}, {Op: api.OpOnce, B: 4}}, 0, api.OK},
		{"jump 999; read 10", []api.Instr{{Op: api.OpJump, A: 999}, {Op: api.OpRead, A: 10}}, 0, api.OK},
		{"send", nil, 0, api.ErrChar},
		{"nop; send", nil, 1, api.ErrChar},
		{"nop 0", nil, 0, api.ErrChar},
		{"nop ", nil, 0, api.ErrChar},
		{"send 1 2", nil, 0, api.ErrChar},
		{"once 1", nil, 0, api.ErrChar},
		{"once 1 2 3", nil, 0, api.ErrChar},
		{"once 1 ", nil, 0, api.ErrChar},
		{"send  1", nil, 0, api.ErrChar},
		{"send 01", nil, 0, api.ErrChar},
		{"send 00", nil, 0, api.ErrChar},
		{"send 1000", nil, 0, api.ErrChar},
		{"send -1", nil, 0, api.ErrChar},
		{"send +1", nil, 0, api.ErrChar},
		{"send 1a", nil, 0, api.ErrChar},
		{"send \xd9\xa1", nil, 0, api.ErrChar},
		{"nop;", nil, 0, api.ErrWord},
		{"nop; ", nil, 1, api.ErrWord},
		{"; nop", nil, 0, api.ErrWord},
		{" nop", nil, 0, api.ErrWord},
		{"nop;nop", nil, 0, api.ErrWord},
		{"nop;  nop", nil, 1, api.ErrWord},
		{"nop\n", nil, 0, api.ErrWord},
		{"Nop", nil, 0, api.ErrWord},
		{"nop send", nil, 0, api.ErrChar},
		{"nop\tx 1", nil, 0, api.ErrWord},
		{"nop; what 1; send", nil, 1, api.ErrWord},
		{"send; what", nil, 0, api.ErrChar},
		{strings.Repeat("nop; ", 23) + "nop", make([]api.Instr, 24), 0, api.OK},
		{strings.Repeat("nop; ", 24) + "nop", nil, 24, api.ErrSize},
		{strings.Repeat("nop; ", 24), nil, 24, api.ErrSize},
		{strings.Repeat("nop; ", 30) + "what", nil, 24, api.ErrSize},
		{strings.Repeat("nop; ", 23) + "what; nop", nil, 23, api.ErrWord},
		{longest, nil, 1, api.ErrWord},
		{longest + "x", nil, 0, api.ErrLong},
		{strings.Repeat("nop; ", 300), nil, 0, api.ErrLong},
	} {
		if l, at, why := text.Parse(x.text); !slices.Equal(l, x.want) || at != x.at || why != x.why {
			t.Errorf("%q: %v %d %d", x.text, l, at, why)
		}
	}
}

// TestThereAndBack is P8.3, both ways.
func TestThereAndBack(t *testing.T) {
	var l []api.Instr
	for op := range 14 {
		in := api.Instr{Op: op}
		if op != api.OpNop {
			in.A = op * 70
		}
		if op == api.OpOnce {
			in.B = 9
		}
		l = append(l, in)
		s, why := text.Print(l)
		if why != api.OK {
			t.Fatal(l, why)
		}
		if m, at, why := text.Parse(s); !slices.Equal(l, m) || at != 0 || why != api.OK {
			t.Error(s, m, at, why)
		}
	}
	whole, _ := text.Print(l)
	for i := range len(whole) {
		for _, b := range " ;019an" {
			s := whole[:i] + string(b) + whole[i+1:]
			m, _, why := text.Parse(s)
			if why != api.OK {
				continue
			}
			if again, why := text.Print(m); again != s || why != api.OK {
				t.Errorf("%q %q %d", s, again, why)
			}
		}
	}
}
