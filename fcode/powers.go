package fcode

import "cullet/api"

const order = 1<<16 - 1 // the powers of 2 come round behind so many

// powers: those of the element 2, from 2^0 to 2^65534.
type powers []uint16

func newPowers() powers {
	list := make(powers, order)
	power := 1
	for e := range list {
		list[e] = uint16(power)
		power <<= 1
		if power > order {
			power ^= api.Poly16
		}
	}
	return list
}

// of: 2 to the e, e of any sign.
func (p powers) of(e int) uint16 {
	e %= order
	if e < 0 {
		e += order
	}
	return p[e]
}
