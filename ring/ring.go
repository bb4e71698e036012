// Package ring is layer 1: see shared/doc/01-ring.md. A polynomial over GF(2) is the bits of a number: bit i is the coefficient of x^i.
package ring

import (
	"math/bits"

	"cullet/api"
)

// Degree: of a; -1 of 0.
func Degree(a uint64) int { return bits.Len64(a) - 1 }

// Mul: the product.
func Mul(a, b uint32) uint64 { return product(uint64(a), uint64(b)) }

// DivMod: quotient and remainder of a by b. ErrZeroDiv.
func DivMod(a, b uint64) (q, r uint64, e api.Errno) {
	if b == 0 {
		return 0, 0, api.ErrZeroDiv
	}
	q, r = divide(a, b)
	return q, r, api.OK
}

// Gcd: the greatest common divisor; Gcd(0, 0) is 0.
func Gcd(a, b uint64) uint64 {
	for b != 0 {
		a, b = b, remainder(a, b)
	}
	return a
}

// Bezout: g, and the factors u and v with u*a + v*b = g of least degree (the chapter says which).
func Bezout(a, b uint32) (g, u, v uint32) {
	if a == 0 && b == 0 {
		return 0, 0, 0
	}
	if b == 0 {
		return a, 1, 0
	}
	wideG, wideU := cofactor(uint64(a), uint64(b))
	wideV, _ := divide(product(wideU, uint64(a))^wideG, uint64(b))
	return uint32(wideG), uint32(wideU), uint32(wideV)
}

// product is right only where the degrees add up to 63 at most: higher terms fall off.
func product(a, b uint64) uint64 {
	p := uint64(0)
	for b != 0 {
		if b&1 == 1 {
			p ^= a
		}
		a <<= 1
		b >>= 1
	}
	return p
}

// divide wants a b that is not 0.
func divide(a, b uint64) (q, r uint64) {
	r = a
	for d := Degree(r) - Degree(b); d >= 0; d = Degree(r) - Degree(b) {
		q |= 1 << d
		r ^= b << d
	}
	return q, r
}

// remainder wants a b that is not 0.
func remainder(a, b uint64) uint64 {
	_, r := divide(a, b)
	return r
}

// cofactor answers g, the greatest common divisor of a and b, and the u that P1.5 asks for. It wants a b that is not 0, and degrees of at most 32: no cofactor outgrows a and b, so that no product is cut.
func cofactor(a, b uint64) (g, u uint64) {
	u, next := uint64(1), uint64(0)
	for b != 0 {
		q, r := divide(a, b)
		a, b = b, r
		u, next = next, u^product(q, next)
	}
	return a, u
}
