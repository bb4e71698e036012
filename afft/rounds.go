package afft

import (
	"math/bits"

	"cullet/lch"
)

// turn: what a round does to a block: its first half of so many places begins at from, its second half behind it, and c is the value at the block's first point of the s_t that is a factor of all the second half's polynomials, and of none of the first's.
type turn func(from, half int, c uint16)

// forward: the rounds from n coefficients to n values. Each halves the polynomials' degrees: on the first half of a block's points s_t is c, on the second half c + 1.
func forward(n, shift int, do turn) {
	for t := rounds(n) - 1; t >= 0; t-- {
		round(n, shift, t, do)
	}
}

// inverse: the same rounds, the last first.
func inverse(n, shift int, do turn) {
	for t := range rounds(n) {
		round(n, shift, t, do)
	}
}

// rounds: how often n, a power of two, can be halved.
func rounds(n int) int { return bits.TrailingZeros(uint(n)) }

// round: each block of 2^(t+1) places is turned.
func round(n, shift, t int, do turn) {
	for from := 0; from < n; from += 2 << t {
		c, _ := lch.Skew(t, shift+from)
		do(from, 1<<t, c)
	}
}

// change: what is done to the two halves of a block, places of the same number with one another.
type change func(f *factor, first, second []uint16)

// evaluate: of the two parts a and b of a polynomial a + b * s_t, where s_t is c or c + 1, both values.
func evaluate(f *factor, first, second []uint16) {
	f.addProducts(first, second)
	add(second, first)
}

// interpolate: back.
func interpolate(f *factor, first, second []uint16) {
	add(second, first)
	f.addProducts(first, second)
}

// ofList: the turn that makes this change to the blocks of one list.
func ofList(list []uint16, do change) turn {
	return func(from, half int, c uint16) {
		middle := from + half
		do(newFactor(c, half), list[from:middle], list[middle:middle+half])
	}
}

// ofRows: the turn that makes this change in every column of the rows, which have all one length.
func ofRows(rows [][]uint16, do change) turn {
	return func(from, half int, c uint16) {
		f := newFactor(c, half*len(rows[from]))
		for i := from; i < from+half; i++ {
			do(f, rows[i], rows[i+half])
		}
	}
}
