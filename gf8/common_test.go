package gf8

import "math"

// What the tests hold the package against is worked out here bit by bit, as the chapter defines it, without a call of the package or of layer 1.

// product: the remainder by 0x11D of the product of two polynomials, the whole product first.
func product(a, b byte) byte {
	whole := 0
	for i := range 8 {
		for j := range 8 {
			whole ^= int(a>>i&1&(b>>j&1)) << (i + j)
		}
	}
	for i := 14; i >= 8; i-- {
		if whole>>i&1 == 1 {
			whole ^= 0x11D << (i - 8)
		}
	}
	return byte(whole)
}

// inverse: of a that is not 0, by looking at all.
func inverse(a byte) byte {
	for b := 1; b < 256; b++ {
		if product(a, byte(b)) == 1 {
			return byte(b)
		}
	}
	panic("the modulus is not irreducible")
}

// power: the product of r times a, 1 where r is 0.
func power(a byte, r int) byte {
	p := byte(1)
	for range r {
		p = product(p, a)
	}
	return p
}

// everyElement: the 256 elements.
func everyElement() []byte {
	list := make([]byte, 256)
	for i := range list {
		list[i] = byte(i)
	}
	return list
}

// exponentCase: an exponent and its remainder by 255, worked out by hand for the great ones.
type exponentCase struct{ n, r int }

// exponents: those of every remainder, of both signs and behind several rounds, and the edges.
func exponents() []exponentCase {
	list := []exponentCase{
		{math.MaxInt, 127}, {math.MaxInt - 127, 0}, {math.MaxInt - 128, 254}, // 2^63 - 1 = 127 modulo 255, since 2^8 is 1
		{math.MinInt, 127}, {math.MinInt + 1, 128}, {math.MinInt + 128, 0}, // and -2^63 is -128
		{math.MaxInt32, 127}, {math.MinInt32, 127},
		{256 * 255, 0}, {-256 * 255, 0}, {65536, 1}, {-65536, 254},
	}
	for r := range 255 {
		for _, rounds := range []int{-3, -2, -1, 0, 1, 2, 3} {
			list = append(list, exponentCase{rounds*255 + r, r})
		}
	}
	return list
}
