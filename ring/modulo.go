package ring

import "cullet/api"

const (
	maxModulus = 32 // the greatest degree of a modulus: residues are then a uint32 each, and their product is a uint64
	maxOrder   = 16 // the greatest degree where the order is asked for: it is then found by counting
)

// MulMod: a*b modulo p. ErrModulus (a degree outside 1 to 32).
func MulMod(a, b, p uint64) (uint64, api.Errno) {
	if !isModulus(p, maxModulus) {
		return 0, api.ErrModulus
	}
	return times(remainder(a, p), remainder(b, p), p), api.OK
}

// PowMod: a to the n modulo p. ErrModulus.
func PowMod(a, n, p uint64) (uint64, api.Errno) {
	if !isModulus(p, maxModulus) {
		return 0, api.ErrModulus
	}
	power, square := uint64(1), remainder(a, p)
	for n != 0 {
		if n&1 == 1 {
			power = times(power, square, p)
		}
		square = times(square, square, p)
		n >>= 1
	}
	return power, api.OK
}

// InvMod: the inverse of a modulo p. ErrModulus, ErrNoInverse.
func InvMod(a, p uint64) (uint64, api.Errno) {
	if !isModulus(p, maxModulus) {
		return 0, api.ErrModulus
	}
	g, inverse := cofactor(remainder(a, p), p)
	if g != 1 {
		return 0, api.ErrNoInverse
	}
	return inverse, api.OK
}

// Irreducible: has p no divisor but 1 and itself? ErrModulus.
func Irreducible(p uint64) (bool, api.Errno) {
	if !isModulus(p, maxModulus) {
		return false, api.ErrModulus
	}
	// x^(2^i) + x is the product of all irreducible polynomials whose degree divides i, and a p that falls apart has a factor of at most half its degree.
	const x = 2
	power := remainder(x, p)
	for i := 1; 2*i <= Degree(p); i++ {
		power = times(power, power, p)
		if Gcd(power^x, p) != 1 {
			return false, api.OK
		}
	}
	return true, api.OK
}

// Order: the least n from 1 on with a^n = 1 modulo p. ErrModulus (a degree outside 1 to 16), ErrNoInverse.
func Order(a, p uint64) (int, api.Errno) {
	if !isModulus(p, maxOrder) {
		return 0, api.ErrModulus
	}
	if Gcd(a, p) != 1 {
		return 0, api.ErrNoInverse
	}
	factor := remainder(a, p)
	n := 1
	for power := factor; power != 1; power = times(power, factor, p) {
		n++
	}
	return n, api.OK
}

// Primitive: is p irreducible, and x of order 2^degree - 1? ErrModulus (a degree outside 1 to 16).
func Primitive(p uint64) (bool, api.Errno) {
	if !isModulus(p, maxOrder) {
		return false, api.ErrModulus
	}
	if whole, _ := Irreducible(p); !whole {
		return false, api.OK
	}
	// Of p = x Order answers 0 beside its error, which is no 2^degree - 1.
	n, _ := Order(2, p)
	return n == 1<<Degree(p)-1, api.OK
}

func isModulus(p uint64, greatest int) bool {
	return Degree(p) >= 1 && Degree(p) <= greatest
}

// times wants a and b to be residues of p, and p to be a modulus.
func times(a, b, p uint64) uint64 {
	return remainder(product(a, b), p)
}
