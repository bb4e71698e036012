package gener

import (
	"cullet/api"
	"cullet/matrix"
)

// Lost: those of 0 to n - 1 that present doesn't name. ErrRange (n outside 0 to 65536), ErrRow.
func Lost(n int, present []int) ([]int, api.Errno) {
	if n < 0 || n > api.MaxLong {
		return nil, api.ErrRange
	}
	if !rising(present, n) {
		return nil, api.ErrRow
	}
	lost := make([]int, 0, n-len(present))
	passed := 0
	for s := range n {
		if passed < len(present) && present[passed] == s {
			passed++
			continue
		}
		lost = append(lost, s)
	}
	return lost, api.OK
}

// Decoder: for each of want the k factors by which it is made of the first k of present. ErrFamily, ErrParams, ErrRow, ErrTooFew.
func Decoder(f api.Family, k, m int, present, want []int) ([][]byte, api.Errno) {
	generator, e := Generator(f, k, m)
	if e != api.OK {
		return nil, e
	}
	if !rising(present, k+m) || !rising(want, k+m) {
		return nil, api.ErrRow
	}
	if len(present) < k {
		return nil, api.ErrTooFew
	}
	// There is no matrix without rows.
	if len(want) == 0 {
		return nil, api.OK
	}
	// Any k rows of a generator have an inverse: it makes the data of those shards.
	used, _ := matrix.Pick(generator, present[:k])
	back, _ := matrix.Invert(used)
	wanted, _ := matrix.Pick(generator, want)
	return matrix.Mul(wanted, back)
}

// rising: is this a list of numbers below n, none below 0, each greater than the one before it?
func rising(list []int, n int) bool {
	least := 0
	for _, s := range list {
		if s < least || s >= n {
			return false
		}
		least = s + 1
	}
	return true
}
