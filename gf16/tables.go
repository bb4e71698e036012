package gf16

import "cullet/api"

// Tables: logarithms and powers of the element 2.
type Tables struct {
	powers [2 * order]uint16 // twice over, so that the sum of two logarithms needs no remainder
	logs   [elements]uint16  // that of 0, which has none, is never asked for
}

// New makes the tables.
func New() *Tables {
	t := &Tables{}
	power := uint16(1)
	for n := range order {
		t.powers[n] = power
		t.powers[n+order] = power
		t.logs[power] = uint16(n)
		power = twice(power)
	}
	return t
}

// twice: the product of a by 2, which is cheaper than Mul: New wants it at each of its steps.
func twice(a uint16) uint16 {
	p := uint32(a) << 1
	if p >= elements {
		p ^= api.Poly16
	}
	return uint16(p)
}

// Mul: the product, by the tables; 0 of a nil object.
func (t *Tables) Mul(a, b uint16) uint16 {
	if t == nil || a == 0 || b == 0 {
		return 0
	}
	return t.powers[t.log(a)+t.log(b)]
}

// Inv: the inverse. ErrNil, ErrZero.
func (t *Tables) Inv(a uint16) (uint16, api.Errno) {
	return t.Div(1, a)
}

// Div: a by b. ErrNil, ErrZero.
func (t *Tables) Div(a, b uint16) (uint16, api.Errno) {
	if t == nil {
		return 0, api.ErrNil
	}
	if b == 0 {
		return 0, api.ErrZero
	}
	if a == 0 {
		return 0, api.OK
	}
	return t.powers[t.log(a)+order-t.log(b)], api.OK
}

// Exp: 2 to the n, n of any sign; 0 of a nil object.
func (t *Tables) Exp(n int) uint16 {
	if t == nil {
		return 0
	}
	return t.powers[exponent(n)]
}

// Log: the n from 0 to 65534 with 2^n = a. ErrNil, ErrZero.
func (t *Tables) Log(a uint16) (int, api.Errno) {
	if t == nil {
		return 0, api.ErrNil
	}
	if a == 0 {
		return 0, api.ErrZero
	}
	return t.log(a), api.OK
}

func (t *Tables) log(a uint16) int { return int(t.logs[a]) }
