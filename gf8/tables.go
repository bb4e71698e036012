package gf8

import "cullet/api"

// generator: the element whose powers are all elements but 0.
const generator = 2

// Tables: logarithms and powers of the element 2.
type Tables struct {
	powers [2 * order]byte // twice over, so that the sum of two logarithms needs no remainder
	logs   [elements]byte  // that of 0, which has none, is never asked for
}

// New makes the tables.
func New() *Tables {
	t := &Tables{}
	power := byte(1)
	for n := range order {
		t.powers[n] = power
		t.powers[n+order] = power
		t.logs[power] = byte(n)
		power = Mul(power, generator)
	}
	return t
}

// Mul: the product, by the tables; 0 of a nil object.
func (t *Tables) Mul(a, b byte) byte {
	if t == nil || a == 0 || b == 0 {
		return 0
	}
	return t.powers[t.log(a)+t.log(b)]
}

// Inv: the inverse. ErrNil, ErrZero.
func (t *Tables) Inv(a byte) (byte, api.Errno) {
	return t.Div(1, a)
}

// Div: a by b. ErrNil, ErrZero.
func (t *Tables) Div(a, b byte) (byte, api.Errno) {
	if t == nil {
		return 0, api.ErrNil
	}
	if b == 0 {
		return 0, api.ErrZero
	}
	if a == 0 {
		return 0, api.OK
	}
	return t.powers[t.log(a)+order-t.log(b)], api.OK
}

// Exp: 2 to the n, n of any sign; 0 of a nil object.
func (t *Tables) Exp(n int) byte {
	if t == nil {
		return 0
	}
	return t.powers[exponent(n)]
}

// Log: the n from 0 to 254 with 2^n = a. ErrNil, ErrZero.
func (t *Tables) Log(a byte) (int, api.Errno) {
	if t == nil {
		return 0, api.ErrNil
	}
	if a == 0 {
		return 0, api.ErrZero
	}
	return t.log(a), api.OK
}

// Row: the products of c by 0, 1, .., 255; none of a nil object.
func (t *Tables) Row(c byte) []byte {
	if t == nil {
		return nil
	}
	row := make([]byte, elements)
	for x := range row {
		row[x] = t.Mul(c, byte(x))
	}
	return row
}

func (t *Tables) log(a byte) int { return int(t.logs[a]) }
