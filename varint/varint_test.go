package varint_test

import (
	"math"
	"slices"
	"testing"

	"plait/api"
	"plait/varint"
)

// numbers are those at which bytes begin to be more, and some between.
var numbers = []int{0, 1, 2, 127, 128, 129, 300, 16383, 16384, 16385, 2097151, 2097152, 268435455, 268435456, 1 << 30, api.MaxVar - 1, api.MaxVar}

var notSmall = []int{-1, api.MaxVar + 1, 1 << 35, math.MinInt, math.MaxInt}

func TestPut(t *testing.T) {
	for _, x := range []struct {
		n    int
		want string
	}{
		{0, "\x00"},
		{1, "\x01"},
		{127, "\x7f"},
		{128, "\x80\x01"},
		{300, "\xac\x02"},
		{16383, "\xff\x7f"},
		{16384, "\x80\x80\x01"},
		{api.MaxVar, "\xff\xff\xff\xff\x07"},
	} {
		if s, why := varint.Put(x.n); s != x.want || why != api.OK {
			t.Errorf("%v: %x %d", x, s, why)
		}
	}
	for _, n := range notSmall {
		if s, why := varint.Put(n); s != "" || why != api.ErrArg {
			t.Errorf("%d: %x %d", n, s, why)
		}
	}
}

func TestGet(t *testing.T) {
	for _, x := range []struct {
		text       string
		at, n, end int
		why        api.Errno
	}{
		{"\xac\x02", 0, 300, 2, api.OK},
		{"\xac\x02", 1, 2, 2, api.OK},
		{"\x05\xac\x02\x09", 1, 300, 3, api.OK},
		{"\x00\x00", 0, 0, 1, api.OK},
		{"", 0, 0, 0, api.ErrShort},
		{"\x01", 1, 0, 0, api.ErrShort},
		{"\x01", 2, 0, 0, api.ErrRange},
		{"\x01", -1, 0, 0, api.ErrRange},
		{"\x01", math.MaxInt, 0, 0, api.ErrRange},
		{"\x01", math.MinInt, 0, 0, api.ErrRange},
		{"\x80", 0, 0, 0, api.ErrShort},
		{"\xff\xff\xff\xff", 0, 0, 0, api.ErrShort},
		{"\xff\xff\xff\xff\xff", 0, 0, 0, api.ErrLong},
		{"\xff\xff\xff\xff\xff\x01", 0, 0, 0, api.ErrLong},
		{"\x80\x80\x80\x80\x80\x00", 0, 0, 0, api.ErrLong},
		{"\x80\x00", 0, 0, 0, api.ErrLong},
		{"\xff\xff\xff\xff\x00", 0, 0, 0, api.ErrLong},
		{"\xff\xff\xff\xff\x07", 0, api.MaxVar, 5, api.OK},
		{"\x80\x80\x80\x80\x08", 0, 0, 0, api.ErrOver},
		{"\xff\xff\xff\xff\x7f", 0, 0, 0, api.ErrOver},
	} {
		if n, end, why := varint.Get(x.text, x.at); n != x.n || end != x.end || why != x.why {
			t.Errorf("%x at %d: %d %d %d", x.text, x.at, n, end, why)
		}
		if n, end, why := varint.Signed(x.text, x.at); why != x.why || end != x.end || why != api.OK && n != 0 {
			t.Errorf("signed %x at %d: %d %d %d", x.text, x.at, n, end, why)
		}
	}
}

func TestSign(t *testing.T) {
	if s, why := varint.Sign(-3); s != "\x05" || why != api.OK {
		t.Errorf("%x %d", s, why)
	}
	for _, n := range []int{0, 1, -1, 63, 64, -64, -65, 1<<30 - 1, -1 << 30} {
		s, why := varint.Sign(n)
		twice := 2 * n
		if n < 0 {
			twice = -2*n - 1
		}
		if want, _ := varint.Put(twice); s != want || why != api.OK {
			t.Errorf("%d: %x %x %d", n, s, want, why)
		}
		if m, end, why := varint.Signed("\xff"+s+"\xff", 1); m != n || end != 1+len(s) || why != api.OK {
			t.Error(n, m, end, why)
		}
	}
	for _, n := range []int{1 << 30, -1<<30 - 1, math.MinInt, math.MaxInt} {
		if s, why := varint.Sign(n); s != "" || why != api.ErrArg {
			t.Errorf("%d: %x %d", n, s, why)
		}
	}
}

func TestAllAndEvery(t *testing.T) {
	s, why := varint.All(numbers)
	if why != api.OK {
		t.Fatal(why)
	}
	if l, why := varint.Every(s); !slices.Equal(l, numbers) || why != api.OK {
		t.Error(l, why)
	}
	one := ""
	for _, n := range numbers {
		p, _ := varint.Put(n)
		one += p
	}
	if s != one {
		t.Errorf("%x %x", s, one)
	}
	if s, why := varint.All(nil); s != "" || why != api.OK {
		t.Error(s, why)
	}
	for _, n := range notSmall {
		if s, why := varint.All([]int{1, n, 2}); s != "" || why != api.ErrArg {
			t.Error(n, s, why)
		}
	}
	for _, x := range []struct {
		text string
		want []int
		why  api.Errno
	}{
		{"", nil, api.OK},
		{"\x01\x80\x01", []int{1, 128}, api.OK},
		{"\x01\x80", nil, api.ErrShort},
		{"\x01\x80\x00\x80", nil, api.ErrLong},
		{"\x01\xff\xff\xff\xff\x08\x80\x00", nil, api.ErrOver},
	} {
		if l, why := varint.Every(x.text); !slices.Equal(l, x.want) || why != x.why {
			t.Errorf("%x: %v %d", x.text, l, why)
		}
	}
}

// TestThereAndBack is P3.3.
func TestThereAndBack(t *testing.T) {
	last := 0
	for _, n := range numbers {
		s, why := varint.Put(n)
		if why != api.OK || len(s) < last {
			t.Error(n, s, why)
		}
		last = len(s)
		if m, end, why := varint.Get("ab"+s+"c", 2); m != n || end != 2+len(s) || why != api.OK {
			t.Error(n, m, end, why)
		}
	}
	edge := []byte{0, 1, 7, 8, 127, 128, 129, 255}
	for i := range 8 * 8 * 8 * 8 * 8 {
		text := ""
		for range 5 {
			text += string([]byte{edge[i%8]})
			i /= 8
		}
		n, end, why := varint.Get(text, 0)
		if why != api.OK {
			continue
		}
		if s, why := varint.Put(n); s != text[:end] || why != api.OK {
			t.Fatalf("%x: %d %x %d", text, n, s, why)
		}
	}
}
