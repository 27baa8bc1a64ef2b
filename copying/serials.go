package copying

import (
	"slices"

	"pileup/api"
)

// checkSerials returns the errors of Chain.
func checkSerials(l []int) api.Errno {
	if len(l) > api.MaxLines {
		return api.ErrLimit
	}
	for _, n := range l {
		if !within(n, 0, api.MaxSerial) {
			return api.ErrArg
		}
	}
	return api.OK
}

// chain returns the first of the longest kept sets of numbers.
func chain(l []int) []int {
	// Between a 0 and a number above the greatest one, the first and the last number that stay need room as those between them do.
	marked := slices.Concat([]int{0}, l, []int{api.MaxSerial + 1})
	last := len(marked) - 1
	stay := func(i, k int) bool { return marked[k]-marked[i] >= k-i }
	sizes, next := make([]int, len(marked)), make([]int, len(marked))
	// size returns how many numbers can stay behind one that stays, the mark at the end among them.
	var size func(i int) int
	size = func(i int) int {
		if i == last || sizes[i] > 0 {
			return sizes[i]
		}
		for k := i + 1; k <= last; k++ {
			if !stay(i, k) || !stay(k, last) {
				continue
			}
			if n := size(k) + 1; n > sizes[i] {
				sizes[i], next[i] = n, k
			}
		}
		return sizes[i]
	}
	size(0)
	var kept []int
	for i := next[0]; i != last; i = next[i] {
		kept = append(kept, i-1)
	}
	return kept
}

// Chain returns the indices of the most numbers that can stay if the others are changed so that all increase.
func Chain(l []int) ([]int, api.Errno) {
	if e := checkSerials(l); e != api.OK {
		return nil, e
	}
	return chain(l), api.OK
}

// Rise returns the fewest changes of numbers that make them increase.
func Rise(l []int) ([]int, api.Errno) {
	if e := checkSerials(l); e != api.OK {
		return nil, e
	}
	rising := make([]int, len(l))
	for _, i := range chain(l) {
		rising[i] = l[i]
	}
	before := 0
	for i, n := range rising {
		// No number that stays is 0.
		if n == 0 {
			rising[i] = before + 1
		}
		before = rising[i]
	}
	return rising, api.OK
}

// isRising reports whether numbers are a rising list.
func isRising(l []int) bool {
	before := 0
	for _, n := range l {
		if !within(n, before+1, api.MaxSerial) {
			return false
		}
		before = n
	}
	return true
}

// CheckRise returns how many numbers are changed, if the changed ones increase.
func CheckRise(l, changed []int) (int, api.Errno) {
	if e := checkSerials(l); e != api.OK {
		return 0, e
	}
	if len(changed) != len(l) || !isRising(changed) {
		return 0, api.ErrRise
	}
	n := 0
	for i := range l {
		if l[i] != changed[i] {
			n++
		}
	}
	return n, api.OK
}
