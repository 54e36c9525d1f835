package code_test

import (
	"reflect"
	"slices"
	"strings"
	"testing"

	"plait/api"
	"plait/code"
	"plait/prog"
	"plait/varint"
)

const least = "\x00\x00\x00\x00\x00\x01\x00" // one empty block

// full has something of everything.
func full() api.Prog {
	return api.Prog{
		Caps: []int{-1, 0, 3}, Mutexes: 1, Onces: 2, Vars: 4,
		Selects: []api.Select{{Default: true}, {Cases: []api.Case{{Chan: 2}, {Send: true, Chan: 1}}}},
		Blocks: [][]api.Instr{
			{{Op: api.OpNop}, {Op: api.OpOnce, A: 1, B: 4}, {Op: api.OpSend, A: 2}, {Op: api.OpJump, A: 4}},
			nil,
			{{Op: api.OpNop}},
		},
	}
}

const fullBytes = "\x03\x00\x01\x04" + "\x01\x02\x04" + "\x02\x01\x04\x04\x03" + "\x03" + "\x04\x00\x07\x01\x04\x01\x02\x0c\x04" + "\x00" + "\x01\x00"

// plain is a program with nil for each empty list: R3.
func plain(p api.Prog) api.Prog {
	q := api.Prog{Mutexes: p.Mutexes, Onces: p.Onces, Vars: p.Vars}
	q.Caps = append(q.Caps, p.Caps...)
	for _, s := range p.Selects {
		var cases []api.Case
		q.Selects = append(q.Selects, api.Select{Cases: append(cases, s.Cases...), Default: s.Default})
	}
	for _, block := range p.Blocks {
		var l []api.Instr
		q.Blocks = append(q.Blocks, append(l, block...))
	}
	return q
}

func TestEncode(t *testing.T) {
	example := api.Prog{Caps: []int{0}, Blocks: [][]api.Instr{{{Op: api.OpSend}}}}
	for _, x := range []struct {
		p    api.Prog
		want string
	}{
		{example, "\x01\x01\x00\x00\x00\x00\x01\x01\x01\x00"},
		{full(), fullBytes},
		{api.Prog{Blocks: [][]api.Instr{{}}}, least},
	} {
		s, why := code.Encode(x.p)
		if s != x.want || why != api.OK {
			t.Errorf("%x %d", s, why)
		}
		if n, why := code.Size(x.p); n != len(x.want) || why != api.OK {
			t.Error(n, why)
		}
		p, why := code.Decode(x.want)
		if !reflect.DeepEqual(plain(p), plain(x.p)) || why != api.OK {
			t.Error(p, why)
		}
	}
}

func TestEncodeWrong(t *testing.T) {
	long := full()
	long.Blocks[1] = make([]api.Instr, 25)
	word := full()
	word.Blocks[2][0].Op = 14
	below := full()
	below.Caps[0] = -2
	for i, p := range []api.Prog{{}, long, word, below} {
		if s, why := code.Encode(p); s != "" || why != api.ErrArg {
			t.Error(i, s, why)
		}
		if n, why := code.Size(p); n != 0 || why != api.ErrArg {
			t.Error(i, n, why)
		}
	}
}

func decodes(t *testing.T, text string, want api.Errno) {
	t.Helper()
	p, why := code.Decode(text)
	if why != want || !reflect.DeepEqual(p, api.Prog{}) {
		t.Errorf("%x: %v %d, not %d", text, p, why, want)
	}
}

func TestDecodeWrong(t *testing.T) {
	for i := range len(fullBytes) {
		decodes(t, fullBytes[:i], api.ErrShort)
	}
	decodes(t, fullBytes+"\x00", api.ErrLong)
	decodes(t, least+"\x80", api.ErrLong)
	for _, x := range []struct {
		text string
		why  api.Errno
	}{
		{"\x05", api.ErrSize},
		{"\x05\x80\x00", api.ErrSize},
		{"\x04", api.ErrShort},
		{"\x80\x00", api.ErrLong},
		{"\xff\xff\xff\xff\xff", api.ErrLong},
		{"\xff\xff\xff\xff\x08", api.ErrOver},
		{"\xff\xff\xff\xff\x07", api.ErrSize},
		{"\x80", api.ErrShort},
		{"\x00\x00\x00\x00\x05", api.ErrSize},
		{"\x00\x00\x00\x00\x04", api.ErrShort},
		{"\x00\x00\x00\x00\x01\x0a", api.ErrSize},
		{"\x00\x00\x00\x00\x01\x0b", api.ErrSize},
		{"\x00\x00\x00\x00\x01\x09", api.ErrShort},
		{"\x00\x00\x00\x00\x00\x07", api.ErrSize},
		{"\x00\x00\x00\x00\x00\x06", api.ErrShort},
		{"\x00\x00\x00\x00\x00\x01\x19", api.ErrSize},
		{"\x00\x00\x00\x00\x00\x01\x18", api.ErrShort},
		{"\x00\x00\x00\x00\x00\x00", api.ErrArg},
		{"\x00\x00\x00\x00\x00\x00\x00", api.ErrLong},
		{"\x00\x03\x00\x00\x00\x01\x00", api.ErrArg},
		{"\x00\xff\xff\xff\xff\x07\x00\x00\x00\x01\x00", api.ErrArg},
		{"\x00\x00\x03\x00\x00\x01\x00", api.ErrArg},
		{"\x00\x00\x00\x05\x00\x01\x00", api.ErrArg},
		{"\x01\x05\x00\x00\x00\x00\x01\x00", api.ErrArg},
		{"\x01\x05\x00\x00\x00\x00\x01\x00\x00", api.ErrLong},
		{"\x00\x00\x00\x00\x01\x02\x00\x01\x00", api.ErrArg},
		{"\x00\x00\x00\x00\x00\x01\x01\x0e", api.ErrShort},
		{"\x00\x00\x00\x00\x00\x01\x01\x0e\x00", api.ErrArg},
		{"\x00\x00\x00\x00\x00\x01\x01\x0e\x00\x00", api.ErrLong},
		{"\x00\x00\x00\x00\x00\x01\x01\x01\x00", api.ErrArg},
		{"\x00\x00\x00\x00\x00\x01\x01\x0c\x02", api.ErrArg},
	} {
		decodes(t, x.text, x.why)
	}
}

// TestThereAndBack is P7.3, both ways, of bytes that are near to a program's.
func TestThereAndBack(t *testing.T) {
	texts := []string{least, fullBytes}
	for i := range len(fullBytes) {
		for _, b := range []byte{0, 1, 2, 3, 4, 5, 13, 14, 127, 128} {
			l := []byte(fullBytes)
			l[i] = b
			texts = append(texts, string(l), string(slices.Insert([]byte(fullBytes), i, b)), string(slices.Delete(l, i, i+1)))
		}
	}
	n := 0
	for _, text := range texts {
		p, why := code.Decode(text)
		if why != api.OK {
			decodes(t, text, why)
			continue
		}
		n++
		if s, why := code.Encode(p); s != text || why != api.OK || !prog.Right(p) {
			t.Errorf("%x %x %d", text, s, why)
		}
		if size, _ := code.Size(p); size != len(text) {
			t.Error(size, len(text))
		}
	}
	if n < 50 {
		t.Error("too few are programs:", n)
	}
}

func TestLongBytes(t *testing.T) {
	decodes(t, least+strings.Repeat("\x80", 1<<20), api.ErrLong)
	zeros, _ := varint.All(make([]int, 1000))
	decodes(t, zeros, api.ErrLong)
}

func TestArgumentsStayAsTheyAre(t *testing.T) {
	p := full()
	code.Encode(p)
	if !reflect.DeepEqual(p, full()) {
		t.Error(p)
	}
}
