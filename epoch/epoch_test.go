package epoch_test

import (
	"encoding/binary"
	"math"
	"math/big"
	"testing"

	"plait/api"
	"plait/epoch"
)

const top = api.MaxTick

var noEpochs = []int{-1, -16, math.MinInt, (top + 1) * 16, math.MaxInt}

func TestPack(t *testing.T) {
	for _, x := range []struct {
		tick, g, want int
		why           api.Errno
	}{
		{3, 5, 53, api.OK},
		{0, 0, 0, api.OK},
		{0, 15, 15, api.OK},
		{top, 15, top*16 + 15, api.OK},
		{-1, 0, 0, api.ErrArg},
		{top + 1, 0, 0, api.ErrArg},
		{math.MinInt, -1, 0, api.ErrArg},
		{math.MaxInt, 16, 0, api.ErrArg},
		{0, -1, 0, api.ErrRange},
		{top, 16, 0, api.ErrRange},
	} {
		if e, why := epoch.Pack(x.tick, x.g); e != x.want || why != x.why {
			t.Error(x, e, why)
		}
	}
}

func TestUnpack(t *testing.T) {
	for _, e := range noEpochs {
		if tick, g, why := epoch.Unpack(e); tick != 0 || g != 0 || why != api.ErrArg {
			t.Error(e, tick, g, why)
		}
	}
	if tick, g, why := epoch.Unpack(53); tick != 3 || g != 5 || why != api.OK {
		t.Error(tick, g, why)
	}
}

// TestThereAndBack is P2.3, of epochs: as they were, and in order as their ticks.
func TestThereAndBack(t *testing.T) {
	ticks := []int{0, 1, 2, 15, 16, 17, 1 << 20, top - 1, top}
	for g := range api.MaxGors {
		last := -1
		for _, tick := range ticks {
			e, why := epoch.Pack(tick, g)
			if why != api.OK || e <= last {
				t.Error(tick, g, e, why)
			}
			last = e
			if m, h, why := epoch.Unpack(e); m != tick || h != g || why != api.OK {
				t.Error(tick, g, m, h, why)
			}
		}
	}
}

func TestKnown(t *testing.T) {
	for _, x := range []struct {
		tick, g int
		c       []int
		want    bool
	}{
		{3, 1, []int{9, 3}, true},
		{3, 1, []int{9, 2}, false},
		{3, 1, []int{9, 4}, true},
		{1, 2, []int{9, 9}, false},
		{0, 15, nil, true},
		{1, 15, nil, false},
		{top, 0, []int{top}, true},
	} {
		e, _ := epoch.Pack(x.tick, x.g)
		if is, why := epoch.Known(e, x.c); is != x.want || why != api.OK {
			t.Error(x, is, why)
		}
	}
	for _, e := range noEpochs {
		if is, why := epoch.Known(e, nil); is || why != api.ErrArg {
			t.Error(e, is, why)
		}
	}
	for _, c := range [][]int{{-1}, {0, top + 1}, make([]int, 17)} {
		if is, why := epoch.Known(0, c); is || why != api.ErrArg {
			t.Error(c, is, why)
		}
	}
}

func TestBytes(t *testing.T) {
	for _, e := range []int{0, 53, 255, 256, 1<<40 + 7, 0x10203040506, top*16 + 15} {
		if s, why := epoch.Bytes(e); len(s) != 8 || int(binary.BigEndian.Uint64([]byte(s))) != e || why != api.OK {
			t.Errorf("%d: %x %d", e, s, why)
		}
	}
	for _, e := range noEpochs {
		if s, why := epoch.Bytes(e); s != "" || why != api.ErrArg {
			t.Error(e, s, why)
		}
	}
}

func TestNarrow(t *testing.T) {
	if n, why := epoch.Narrow(200, api.KInt8); n != -56 || why != api.OK {
		t.Error(n, why)
	}
	kinds := []struct{ kind, least, most int }{
		{api.KInt8, math.MinInt8, math.MaxInt8},
		{api.KUint8, 0, math.MaxUint8},
		{api.KInt16, math.MinInt16, math.MaxInt16},
		{api.KUint16, 0, math.MaxUint16},
		{api.KInt32, math.MinInt32, math.MaxInt32},
		{api.KUint32, 0, math.MaxUint32},
	}
	numbers := []int{0, 1, -1, 5, math.MaxInt, math.MinInt, 0x123456789abcdef}
	for _, k := range kinds {
		numbers = append(numbers, k.least-1, k.least, k.most, k.most+1, 3*k.most, -7*k.most)
	}
	for _, k := range kinds {
		size := k.most - k.least + 1
		for _, v := range numbers {
			n, why := epoch.Narrow(v, k.kind)
			if why != api.OK || n < k.least || n > k.most || (v-n)%size != 0 {
				t.Error(v, k, n, why)
			}
			if m, _ := epoch.Narrow(n, k.kind); m != n {
				t.Error("again", v, k, n, m)
			}
		}
	}
	for _, kind := range []int{-1, 6, math.MinInt, math.MaxInt} {
		if n, why := epoch.Narrow(5, kind); n != 0 || why != api.ErrArg {
			t.Error(kind, n, why)
		}
	}
}

// shifted is what the document asks of a shift, by great numbers.
func shifted(v, n int) int {
	b := big.NewInt(int64(v))
	if n < 0 {
		b.Div(b, new(big.Int).Lsh(big.NewInt(1), uint(-n))) // Euclid's, which rounds down here
		return int(b.Int64())
	}
	b.Lsh(b, uint(n))
	b.And(b, new(big.Int).SetUint64(math.MaxUint64))
	return int(b.Uint64())
}

func TestShift(t *testing.T) {
	if n, why := epoch.Shift(-5, -1); n != -3 || why != api.OK {
		t.Error(n, why)
	}
	for n := -64; n <= 64; n++ {
		for _, v := range []int{0, 1, -1, 5, -5, 255, 1 << 40, -1 << 40, math.MaxInt, math.MinInt, 0x123456789abcdef} {
			if s, why := epoch.Shift(v, n); s != shifted(v, n) || why != api.OK {
				t.Error(v, n, s, shifted(v, n), why)
			}
		}
	}
	for _, n := range []int{-65, 65, math.MinInt, math.MaxInt} {
		if s, why := epoch.Shift(1, n); s != 0 || why != api.ErrArg {
			t.Error(n, s, why)
		}
	}
}
