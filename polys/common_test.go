package polys

import (
	"slices"
	"testing"
)

// What the tests hold the package against is worked out here bit by bit and coefficient by coefficient, as the chapters define it, without a call of the package or of a layer below.

// book: a ring, and the field that it is over.
type book[E uint8 | uint16] struct {
	name    string
	ring    *Ring[E]
	bits    int
	modulus uint32
}

func book8() book[uint8]   { return book[uint8]{"GF(2^8)", Over8(), 8, 0x11D} }
func book16() book[uint16] { return book[uint16]{"GF(2^16)", Over16(), 16, 0x1002D} }

// product: of two elements, the whole carry-less product first, then its remainder.
func (b book[E]) product(x, y E) E {
	whole := uint32(0)
	for i := range b.bits {
		if y>>i&1 == 1 {
			whole ^= uint32(x) << i
		}
	}
	for i := 2*b.bits - 2; i >= b.bits; i-- {
		if whole>>i&1 == 1 {
			whole ^= b.modulus << (i - b.bits)
		}
	}
	return E(whole)
}

// inverse: x to the 2^bits - 2, that is x^2 * x^4 * x^8 ..
func (b book[E]) inverse(x E) E {
	result, square := E(1), x
	for range b.bits - 1 {
		square = b.product(square, square)
		result = b.product(result, square)
	}
	return result
}

// shorn: f without the zeros at its end, in new memory.
func shorn[E uint8 | uint16](f []E) []E {
	list := append([]E{}, f...)
	for len(list) > 0 && list[len(list)-1] == 0 {
		list = list[:len(list)-1]
	}
	return list
}

// added: the sum, at each place of the longer list.
func added[E uint8 | uint16](f, g []E) []E {
	list := make([]E, max(len(f), len(g)))
	for i := range list {
		if i < len(f) {
			list[i] ^= f[i]
		}
		if i < len(g) {
			list[i] ^= g[i]
		}
	}
	return shorn(list)
}

// multiplied: the coefficient of X^n is the sum of f[i] * g[n - i].
func (b book[E]) multiplied(f, g []E) []E {
	list := make([]E, len(f)+len(g)+1)
	for n := range list {
		for i := max(0, n-len(g)+1); i <= n && i < len(f); i++ {
			list[n] ^= b.product(f[i], g[n-i])
		}
	}
	return shorn(list)
}

// value: the sum of f[i] * x^i, the powers of x one after the other, the first of them 1.
func (b book[E]) value(f []E, x E) E {
	sum, power := E(0), E(1)
	for _, c := range f {
		sum ^= b.product(c, power)
		power = b.product(power, x)
	}
	return sum
}

// divided: f less c * X^n * g, the highest term gone each time, until what is left is shorter than g.
func (b book[E]) divided(f, g []E) (q, m []E) {
	m, g = shorn(f), shorn(g)
	q = make([]E, len(m)+1)
	for len(m) >= len(g) {
		n := len(m) - len(g)
		c := b.product(m[len(m)-1], b.inverse(g[len(g)-1]))
		q[n] = c
		term := make([]E, n)
		for _, x := range g {
			term = append(term, b.product(c, x))
		}
		m = added(m, term)
	}
	return shorn(q), m
}

// rooted: the product of all X + x.
func (b book[E]) rooted(points ...E) []E {
	f := []E{1}
	for _, x := range points {
		f = b.multiplied(f, []E{x, 1})
	}
	return f
}

// sequence: Euclid's remainders, from f and g to the 0 at the end, each with its factors.
func (b book[E]) sequence(f, g []E) [][3][]E {
	list := [][3][]E{{shorn(f), {1}, {}}, {shorn(g), {}, {1}}}
	for len(list[len(list)-1][0]) > 0 {
		last, now := list[len(list)-2], list[len(list)-1]
		q, m := b.divided(last[0], now[0])
		list = append(list, [3][]E{m, added(last[1], b.multiplied(q, now[1])), added(last[2], b.multiplied(q, now[2]))})
	}
	return list
}

// partial: the first of the sequence whose degree is below d.
func (b book[E]) partial(f, g []E, d int) (m, u, v []E) {
	list := b.sequence(f, g)
	i := slices.IndexFunc(list, func(c [3][]E) bool { return len(c[0])-1 < d })
	return list[i][0], list[i][1], list[i][2]
}

// dice: numbers that look thrown and are the same at each run.
type dice uint64

func (d *dice) next() uint64 {
	*d = *d*6364136223846793005 + 1442695040888963407
	return uint64(*d) >> 33
}

func (d *dice) below(n int) int { return int(d.next() % uint64(n)) }

// thrown: n elements, one in four of them 0.
func thrown[E uint8 | uint16](d *dice, n int) []E {
	list := make([]E, n)
	for i := range list {
		if d.below(4) > 0 {
			list[i] = E(d.next())
		}
	}
	return list
}

// full: n elements, none of them 0.
func full[E uint8 | uint16](d *dice, n int) []E {
	list := make([]E, n)
	for i := range list {
		list[i] = E(d.below(255)) + 1
	}
	return list
}

// unlike: n elements, at most 256, none twice, in a mixed order.
func unlike[E uint8 | uint16](d *dice, n int) []E {
	list := make([]E, 0, n)
	for len(list) < n {
		if x := E(d.next()); !slices.Contains(list, x) {
			list = append(list, x)
		}
	}
	return list
}

// zeros: the forms in which the polynomial 0 is handed in.
func zeros[E uint8 | uint16]() [][]E {
	return [][]E{nil, {}, {0}, {0, 0, 0}, make([]E, 1024)}
}

// tailed: f with n zeros behind it.
func tailed[E uint8 | uint16](f []E, n int) []E {
	return append(append([]E{}, f...), make([]E, n)...)
}

// same tells an answer that is not the list that is wanted, zeros at the end counted.
func same[E uint8 | uint16](t *testing.T, what string, got, want []E) {
	t.Helper()
	if !slices.Equal(got, want) {
		t.Errorf("%s = %x, want %x", what, short(got), short(want))
	}
}

// short: the beginning of a list that is too long to be told.
func short[E uint8 | uint16](f []E) []E { return f[:min(len(f), 24)] }
