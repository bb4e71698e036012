package lch

import (
	"math/bits"

	"cullet/api"
)

// ToMonomials: the coefficients in powers of x of the sum of d[j] times X_j. ErrPower (no power of two up to MaxMono).
func ToMonomials(d []uint16) ([]uint16, api.Errno) {
	if !isPower(len(d), api.MaxMono) {
		return nil, api.ErrPower
	}
	f := copied(d)
	for i := range levels(f) {
		for from := 0; from < len(f); from += 2 << i {
			multiply(f[from:from+2<<i], i)
		}
	}
	return f, api.OK
}

// FromMonomials: back. ErrPower.
func FromMonomials(f []uint16) ([]uint16, api.Errno) {
	if !isPower(len(f), api.MaxMono) {
		return nil, api.ErrPower
	}
	d := copied(f)
	for i := levels(d) - 1; i >= 0; i-- {
		for from := 0; from < len(d); from += 2 << i {
			divide(d[from:from+2<<i], i)
		}
	}
	return d, api.OK
}

// multiply: f is two halves of 2^i coefficients each, r and q, and becomes r + q * s_i in powers of x.
func multiply(f []uint16, i int) {
	for j := range 1 << i {
		spread(f, i, j)
	}
}

// divide: f becomes the remainder and the quotient of f by s_i. It does what multiply does, the last first, since each step undoes itself.
func divide(f []uint16, i int) {
	for j := 1<<i - 1; j >= 0; j-- {
		spread(f, i, j)
	}
}

// spread adds the lower terms of s_i times x^j, as often as f has x^j times the highest one.
func spread(f []uint16, i, j int) {
	for t := range i {
		if occurs(t, i) {
			f[j+1<<t] ^= f[j+1<<i]
		}
	}
}

// Derivative: of the sum of d[j] times X_j, in the same basis. ErrPower (no power of two up to 65536).
func Derivative(d []uint16) ([]uint16, api.Errno) {
	if !isPower(len(d), elements) {
		return nil, api.ErrPower
	}
	// The derivative of each s_i is 1, so that of X_j is the sum of the products that lack one of its factors.
	sums := make([]uint16, len(d))
	for i := range levels(d) {
		for j := range sums {
			if j>>i&1 == 0 {
				sums[j] ^= d[j+1<<i]
			}
		}
	}
	return sums, api.OK
}

// isPower: is n a power of two from 1 to the most?
func isPower(n, most int) bool { return n > 0 && n <= most && n&(n-1) == 0 }

// levels: how often the list can be halved, whose length is a power of two.
func levels(list []uint16) int { return bits.TrailingZeros(uint(len(list))) }

// copied: the same words in memory of their own.
func copied(list []uint16) []uint16 {
	own := make([]uint16, len(list))
	copy(own, list)
	return own
}
