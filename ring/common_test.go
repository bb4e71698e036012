package ring

// What the tests hold the package against is worked out here bit by bit, as the chapter defines it, without a call of the package.

// polys: 0, 1, and polynomials of every degree up to the greatest: with one term, with all, and with scattered ones.
func polys(greatest int) []uint64 {
	list := []uint64{0}
	scatter := uint64(0x9E3779B97F4A7C15)
	for d := range greatest + 1 {
		top := uint64(1) << d
		scatter = scatter*6364136223846793005 + 1442695040888963407
		list = append(list, top, top|(top-1), top|scatter>>1&(top-1), top|scatter>>17&(top-1)|1)
	}
	return list
}

// wideProduct: the product of a and b, its terms below x^64 and those from there on.
func wideProduct(a, b uint64) (low, high uint64) {
	for i := range 64 {
		for j := range 64 {
			bit := a >> i & 1 & (b >> j & 1)
			if i+j < 64 {
				low ^= bit << (i + j)
			} else {
				high ^= bit << (i + j - 64)
			}
		}
	}
	return low, high
}

// residue: the remainder by p, of a degree from 1 to 63, of a polynomial of two words.
func residue(low, high, p uint64) uint64 {
	top := 63
	for p>>top == 0 {
		top--
	}
	r := uint64(0)
	for i := 127; i >= 0; i-- {
		word := low
		if i >= 64 {
			word = high
		}
		over := r >> (top - 1) & 1
		r = r<<1 | word>>(i%64)&1
		if over == 1 {
			r ^= p
		}
	}
	return r
}

// productModulo: a*b by p, of a degree from 1 to 63.
func productModulo(a, b, p uint64) uint64 {
	low, high := wideProduct(a, b)
	return residue(low, high, p)
}

// divides: is b a multiple of a? Of a and b below 2^31.
func divides(a, b uint64) bool {
	switch a {
	case 0:
		return b == 0
	case 1:
		return true
	}
	return residue(b, 0, a) == 0
}

// gcdIsOne: have a and p, of a degree from 1 to 16, no divisor in common but 1?
func gcdIsOne(a, p uint64) bool {
	for d := uint64(2); d <= p; d++ {
		if residue(p, 0, d) == 0 && residue(a, 0, d) == 0 {
			return false
		}
	}
	return true
}

// wrongModuli: polynomials of no degree from 1 to greatest.
func wrongModuli(greatest int) []uint64 {
	list := []uint64{0, 1, 1 << 63, 1<<64 - 1}
	for d := greatest + 1; d < 64; d++ {
		list = append(list, 1<<d, 1<<d|3, 1<<d<<1-1)
	}
	return list
}
