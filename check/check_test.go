package check_test

import (
	"math"
	"slices"
	"strings"
	"testing"

	"plait/api"
	"plait/check"
	"plait/code"
	"plait/order"
	"plait/race"
	"plait/run"
	"plait/samples"
)

func bytes(t *testing.T, p api.Prog) string {
	t.Helper()
	s, why := code.Encode(p)
	if why != api.OK {
		t.Fatal(why)
	}
	return s
}

func TestExample(t *testing.T) {
	s := bytes(t, samples.Of(api.Prog{Vars: 1}, "go 1; write 0", "write 0"))
	v, why := check.Check(s, nil, 9)
	want := api.Verdict{Kind: api.VRun, Status: api.SDone, Steps: 3, Events: 5, Racy: true, Race: api.Race{Later: 4, Earlier: 3}}
	if v != want || why != api.OK {
		t.Error(v, why)
	}
}

// same holds all calls against those of the layers below.
func same(t *testing.T, p api.Prog, picks []int, fuel int) api.Verdict {
	t.Helper()
	s := bytes(t, p)
	r, _ := run.Run(p, picks, fuel)
	want := api.Verdict{Status: r.Status, Steps: len(r.Choices), Events: len(r.Events)}
	x, why := race.Find(p.Caps, r.Events)
	switch {
	case r.Status == api.SLimit:
		want.Kind = api.VLimit
	case why == api.OK:
		want.Racy, want.Race = true, x
	}
	v, why := check.Check(s, picks, fuel)
	if v != want || why != api.OK {
		t.Fatal(v, want, why)
	}
	if l, why := check.Events(s, picks, fuel); !slices.Equal(l, r.Events) || why != api.OK {
		t.Fatal(l, why)
	}
	n := len(r.Events)
	for _, x := range [][2]int{{0, n - 1}, {n / 2, n - 1}, {n - 1, 0}, {n - 1, n}, {-1, 0}, {n, 0}} {
		b, want := order.Before(p.Caps, r.Events, x[0], x[1])
		if got, why := check.Before(s, picks, fuel, x[0], x[1]); got != b || why != want {
			t.Fatal(x, got, why, b, want)
		}
	}
	return v
}

func TestVerdicts(t *testing.T) {
	var kinds [3]int
	var ends [6]int
	racy := 0
	for n := range 300 {
		for _, fuel := range []int{1, 9, 120, 400} {
			v := same(t, samples.Made(n), samples.Picks(n, 150), fuel)
			kinds[v.Kind]++
			ends[v.Status]++
			if v.Racy {
				racy++
			}
			if v.Kind == api.VLimit && (v.Racy || v.Race != (api.Race{})) {
				t.Fatal(n, v)
			}
		}
	}
	for _, s := range samples.All() {
		same(t, s.Prog, nil, 60)
	}
	if kinds[api.VRun] < 50 || kinds[api.VLimit] < 1 || racy < 50 || ends[api.SRun] > 0 || slices.Contains(ends[1:], 0) {
		t.Error(kinds, ends, racy)
	}
}

// TestPicksBehindTheSteps: a verdict hangs on the picks as far as there were steps alone.
func TestPicksBehindTheSteps(t *testing.T) {
	for n := range 100 {
		s := bytes(t, samples.Made(n))
		picks := samples.Picks(n, 60)
		v, _ := check.Check(s, picks, 60)
		if w, why := check.Check(s, append(slices.Clone(picks[:v.Steps]), 3, 1, 4), v.Steps); why == api.OK && w.Status == v.Status && w != v {
			t.Error(n, v, w)
		}
		if v.Status != api.SFuel {
			if w, _ := check.Check(s, slices.Concat(picks[:v.Steps], []int{3, 1, 4}), 400); w != v {
				t.Error(n, v, w)
			}
		}
	}
}

func TestLimit(t *testing.T) {
	s := bytes(t, samples.Of(api.Prog{Vars: 1}, "write 0; go 0; write 0; jump 0"))
	v, why := check.Check(s, samples.Picks(1, 400), 400)
	if v.Kind != api.VLimit || v.Status != api.SLimit || v.Racy || v.Race != (api.Race{}) || v.Why != api.OK || v.Steps == 0 || why != api.OK {
		t.Error(v, why)
	}
}

func TestNoProgram(t *testing.T) {
	good := bytes(t, samples.Made(1))
	for _, s := range []string{"", "\x05", "\x80\x00", "\xff\xff\xff\xff\x08", good + "\x00", good[:len(good)-1], "\x00\x03\x00\x00\x00\x01\x00", strings.Repeat("\xff", 1000)} {
		_, want := code.Decode(s)
		v, why := check.Check(s, nil, 5)
		if want == api.OK || v != (api.Verdict{Kind: api.VBytes, Why: want}) || why != api.OK {
			t.Errorf("%x: %v %d", s, v, why)
		}
		if l, why := check.Events(s, nil, 400); len(l) > 0 || why != want {
			t.Errorf("%x: %v %d", s, l, why)
		}
		if is, why := check.Before(s, nil, 1, -5, 99); is || why != want {
			t.Errorf("%x: %v %d", s, is, why)
		}
	}
}

func TestFuel(t *testing.T) {
	good := bytes(t, samples.Made(1))
	for _, fuel := range []int{0, -1, 401, math.MinInt, math.MaxInt} {
		for _, s := range []string{good, "", "\x80"} {
			if v, why := check.Check(s, nil, fuel); v != (api.Verdict{}) || why != api.ErrSize {
				t.Error(fuel, v, why)
			}
			if l, why := check.Events(s, nil, fuel); len(l) > 0 || why != api.ErrSize {
				t.Error(fuel, l, why)
			}
			if is, why := check.Before(s, nil, fuel, 0, 1); is || why != api.ErrSize {
				t.Error(fuel, is, why)
			}
		}
	}
}
