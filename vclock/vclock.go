// Package vclock is layer 1: clocks, which tell how far each goroutine has come, as one of them knows.
package vclock

import (
	"cmp"

	"plait/api"
)

// Right tells whether a clock may be.
func Right(c []int) bool {
	if len(c) > api.MaxGors {
		return false
	}
	for _, n := range c {
		if n < 0 || n > api.MaxTick {
			return false
		}
	}
	return true
}

// At is the entry of g.
func At(c []int, g int) (int, api.Errno) {
	if !Right(c) {
		return 0, api.ErrArg
	}
	if g < 0 || g >= api.MaxGors {
		return 0, api.ErrRange
	}
	return entry(c, g), api.OK
}

// Tick is the clock with the entry of g one more.
func Tick(c []int, g int) ([]int, api.Errno) {
	n, why := At(c, g)
	if why != api.OK {
		return nil, why
	}
	if n == api.MaxTick {
		return nil, api.ErrOver
	}
	step := make([]int, g+1)
	step[g] = n + 1
	return grown(c, step), api.OK
}

// Join is the least clock that both are at most.
func Join(a, b []int) ([]int, api.Errno) {
	if !Right(a) || !Right(b) {
		return nil, api.ErrArg
	}
	return grown(a, b), api.OK
}

// Leq tells whether each entry of a is at most that of b.
func Leq(a, b []int) (bool, api.Errno) {
	if !Right(a) || !Right(b) {
		return false, api.ErrArg
	}
	for g, n := range a {
		if n > entry(b, g) {
			return false, api.OK
		}
	}
	return true, api.OK
}

// Trim is the same clock, without what is 0 at its end.
func Trim(c []int) ([]int, api.Errno) {
	if !Right(c) {
		return nil, api.ErrArg
	}
	return grown(c), api.OK
}

// entry is what c has of g; what is not there counts as 0.
func entry(c []int, g int) int {
	if g >= len(c) {
		return 0
	}
	return c[g]
}

// grown is the least clock that all rows are at most, trim: every clock that is told is made here.
func grown(rows ...[]int) []int {
	var all []int
	for _, row := range rows {
		all = greater(all, row)
	}
	n := len(all)
	for n > 0 && all[n-1] == 0 {
		n--
	}
	return all[:n]
}

// greater has at each place the greater of both entries, or the only one. It is always a new row, so that no answer shares an argument's.
func greater[T cmp.Ordered](a, b []T) []T {
	all := make([]T, max(len(a), len(b)))
	copy(all, a)
	for i, n := range b {
		if i >= len(a) || n > all[i] {
			all[i] = n
		}
	}
	return all
}
