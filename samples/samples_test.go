package samples_test

import (
	"testing"

	"plait/api"
	"plait/prog"
	"plait/samples"
)

func TestRight(t *testing.T) {
	for _, s := range samples.All() {
		if b, i, why := prog.Wrong(s.Prog); why != api.OK {
			t.Error(s.Name, b, i, why)
		}
	}
	var ops [14]int
	for n := range 300 {
		p := samples.Made(n)
		if b, i, why := prog.Wrong(p); why != api.OK {
			t.Fatal(n, b, i, why)
		}
		for op := range ops {
			k, _ := prog.Count(p, op)
			ops[op] += k
		}
	}
	for op, n := range ops {
		if n < 10 {
			t.Error("too few of op", op, n)
		}
	}
	if prog.Right(samples.Of(api.Prog{}, "nop", "what")) {
		t.Error("no block")
	}
}
