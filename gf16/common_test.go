package gf16

import (
	"math"
	"testing"
)

// What the tests hold the package against is worked out here bit by bit, as the chapter defines it, without a call of the package or of layer 1.

// product: the remainder by 0x1002D of the product of two polynomials, the whole product first.
func product(a, b uint16) uint16 {
	whole := uint32(0)
	for i := range 16 {
		if b>>i&1 == 1 {
			whole ^= uint32(a) << i
		}
	}
	for i := 30; i >= 16; i-- {
		if whole>>i&1 == 1 {
			whole ^= 0x1002D << (i - 16)
		}
	}
	return uint16(whole)
}

// powersOf: a^0 .. a^65534, one after the other.
func powersOf(a uint16) []uint16 {
	list := make([]uint16, 65535)
	p := uint16(1)
	for n := range list {
		list[n] = p
		p = product(p, a)
	}
	return list
}

// inverses: those of all elements, that of 0 left 0. 2 is a generator, so that the inverse of 2^n is 2^(65535 - n).
func inverses() []uint16 {
	powers := powersOf(2)
	list := make([]uint16, 65536)
	for n, p := range powers {
		list[p] = powers[(65535-n)%65535]
	}
	return list
}

// roots: of each element the even y with y*y + y equal to it, or -1, by going over all even ones.
func roots() []int {
	list := make([]int, 65536)
	for i := range list {
		list[i] = -1
	}
	for y := 0; y < 65536; y += 2 {
		list[product(uint16(y), uint16(y))^uint16(y)] = y
	}
	return list
}

// cantor: the basis by its definition, from the roots of all elements.
func cantor(t *testing.T) []uint16 {
	root := roots()
	list := []uint16{1}
	for i := range 15 {
		y := root[list[i]]
		if y < 0 {
			t.Fatalf("b(%d) = %#x has no root", i, list[i])
		}
		list = append(list, uint16(y))
	}
	return list
}

// sumOf: the element whose bits in that basis are those of i.
func sumOf(basis []uint16, i int) uint16 {
	sum := uint16(0)
	for t, b := range basis {
		if i>>t&1 == 1 {
			sum ^= b
		}
	}
	return sum
}

// everyElement: the 65536 elements.
func everyElement() []uint16 {
	list := make([]uint16, 65536)
	for i := range list {
		list[i] = uint16(i)
	}
	return list
}

// edges: the elements that the chapter and its examples name, and some between them.
func edges() []uint16 {
	return []uint16{0, 1, 2, 3, 0x2D, 77, 0x800, 0x1234, 0x1E79, 0x2000, 0x2537, 0x7FFF, 0x8000, 0x8001, 0x8016, 0x991E, 0xABCD, 0xACCA, 0xACCB, 0xFFFE, 0xFFFF}
}

// exponentCase: an exponent and its remainder by 65535, worked out by hand for the great ones.
type exponentCase struct{ n, r int }

// greatExponents: the edges of int, and those beside them that are multiples of 65535.
func greatExponents() []exponentCase {
	return []exponentCase{
		{math.MaxInt, 32767}, {math.MaxInt - 32767, 0}, {math.MaxInt - 32768, 65534}, // 2^63 - 1 is 2^15 - 1 modulo 65535, since 2^16 is 1
		{math.MinInt, 32767}, {math.MinInt + 1, 32768}, {math.MinInt + 32768, 0}, {math.MinInt + 32767, 65534}, // and -2^63 is -2^15
		{math.MaxInt32, 32767}, {math.MinInt32, 32767}, {1 << 32, 1}, {-1 << 32, 65534},
		{65536 * 65535, 0}, {-65536 * 65535, 0},
	}
}

// nearExponents: every remainder, of both signs and behind several rounds.
func nearExponents() []exponentCase {
	var list []exponentCase
	for r := range 65535 {
		for _, rounds := range []int{-3, -2, -1, 0, 1, 2, 3} {
			list = append(list, exponentCase{rounds*65535 + r, r})
		}
	}
	return list
}

// edgeExponents: those about the multiples of 65535, and the great ones.
func edgeExponents() []exponentCase {
	list := greatExponents()
	for _, rounds := range []int{-2, -1, 0, 1, 2} {
		for _, r := range []int{0, 1, 2, 15, 16, 255, 256, 21845, 32767, 32768, 43690, 65533, 65534} {
			list = append(list, exponentCase{rounds*65535 + r, r})
		}
	}
	return list
}
