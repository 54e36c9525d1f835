package check_test

import (
	"fmt"

	"plait/api"
	"plait/check"
	"plait/code"
	"plait/explore"
	"plait/text"
)

// Two goroutines write one variable, and nothing is between them.
func Example() {
	first, _, _ := text.Parse("go 1; write 0")
	second, _, _ := text.Parse("write 0")
	p := api.Prog{Vars: 1, Blocks: [][]api.Instr{first, second}}
	bytes, why := code.Encode(p)
	if why != api.OK {
		return
	}
	v, _ := check.Check(bytes, []int{0, 1}, 9)
	fmt.Println(v.Kind == api.VRun, v.Status == api.SDone, v.Racy, v.Race.Later, v.Race.Earlier)
	s, _ := explore.Sweep(p, 9, 300)
	fmt.Println(s.Runs, s.Racy, s.Whole)
	// Output:
	// true true true 4 3
	// 2 2 true
}
