package lch

import (
	"fmt"
	"math"
	"slices"
	"testing"

	"cullet/api"
)

// What the tests hold the package against is worked out here by the chapter's words, without a call of the package or of the layers below: products bit by bit, elements by roots that are looked for, subspace polynomials as products over their points.

// field16: the field of 65536: powers of 2 and logarithms, by shifts; the element of each index; and the values of every subspace polynomial at every element.
type field16 struct {
	powers [65535]uint16
	logs   [65536]int
	w      [65536]uint16
	s      [17][65536]uint16
}

// long: the field of 65536 as the tests have it.
var long = makeField16()

func makeField16() *field16 {
	f := &field16{}
	p := 1
	for n := range f.powers {
		f.powers[n], f.logs[p] = uint16(p), n
		p = product(p, 2)
	}
	basis := f.cantor()
	for i := range f.w {
		for t, b := range basis {
			if i>>t&1 == 1 {
				f.w[i] ^= b
			}
		}
	}
	for x := range 65536 {
		y := uint16(x)
		for i := range f.s {
			f.s[i][x] = y
			y ^= f.mul(y, y)
		}
	}
	return f
}

// product: the remainder of the product of two polynomials, the whole product first.
func product(a, b int) int {
	whole := 0
	for i := range 16 {
		if a>>i&1 == 1 {
			whole ^= b << i
		}
	}
	for i := 30; i >= 16; i-- {
		if whole>>i&1 == 1 {
			whole ^= 0x1002D << (i - 16)
		}
	}
	return whole
}

// cantor: 1, and behind each element the even one whose square and itself have it as their sum.
func (f *field16) cantor() []uint16 {
	even := make([]uint16, 65536)
	for y := 0; y < 65536; y += 2 {
		even[product(y, y)^y] = uint16(y)
	}
	basis := []uint16{1}
	for len(basis) < 16 {
		basis = append(basis, even[basis[len(basis)-1]])
	}
	return basis
}

func (f *field16) mul(a, b uint16) uint16 {
	if a == 0 || b == 0 {
		return 0
	}
	return f.powers[(f.logs[a]+f.logs[b])%65535]
}

// vanishing: s_i at x by its definition, a product over 2^i points.
func (f *field16) vanishing(i int, x uint16) uint16 {
	p := uint16(1)
	for j := range 1 << i {
		p = f.mul(p, x^f.w[j])
	}
	return p
}

// subspace: the 2^i + 1 coefficients of s_i in powers of x, factor by factor.
func (f *field16) subspace(i int) []uint16 {
	list := []uint16{1}
	for j := range 1 << i {
		list = f.times(list, []uint16{f.w[j], 1})
	}
	return list
}

// times: the product of two polynomials in powers of x.
func (f *field16) times(a, b []uint16) []uint16 {
	list := make([]uint16, len(a)+len(b)-1)
	for i, c := range a {
		if c != 0 {
			for j, d := range b {
				list[i+j] ^= f.mul(c, d)
			}
		}
	}
	return list
}

// at: the value at x of a polynomial in powers of x.
func (f *field16) at(list []uint16, x uint16) uint16 {
	y := uint16(0)
	for i := len(list) - 1; i >= 0; i-- {
		y = f.mul(y, x) ^ list[i]
	}
	return y
}

// bases: the values of the n first X_j at x: each is one of fewer factors, and one factor more.
func (f *field16) bases(n int, x uint16) []uint16 {
	list := make([]uint16, n)
	for j := range list {
		list[j] = 1
		for i := range 16 {
			if j>>i&1 == 1 {
				list[j] = f.mul(list[j&^(1<<i)], f.s[i][x])
			}
		}
	}
	return list
}

// sum: of the products of two lists of one length.
func (f *field16) sum(a, b []uint16) uint16 {
	y := uint16(0)
	for i := range a {
		y ^= f.mul(a[i], b[i])
	}
	return y
}

// monomials: of each of the 256 first X_j its coefficients in powers of x.
type monomials [256][]uint16

// powers: the 256 first polynomials of the basis as the tests have them.
var powers = makeMonomials()

func makeMonomials() *monomials {
	all := &monomials{{1}}
	for i := range 8 {
		s := long.subspace(i)
		for j := range 1 << i {
			all[1<<i+j] = long.times(all[j], s)
		}
	}
	return all
}

// of: the polynomial that d means, in as many powers of x.
func (m *monomials) of(d []uint16) []uint16 {
	list := make([]uint16, len(d))
	for j, c := range d {
		for i, term := range m[j] {
			list[i] ^= long.mul(c, term)
		}
	}
	return list
}

// derived: the coefficients of the formal derivative, as many as there were: i times the coefficient at x^i, which is 0 of an even i, stands at x^(i - 1).
func derived(list []uint16) []uint16 {
	d := make([]uint16, len(list))
	for i := range list {
		if i%2 == 1 {
			d[i-1] = list[i]
		}
	}
	return d
}

// dice: numbers that look like no pattern.
type dice uint64

func (d *dice) next(n int) int {
	*d = *d*6364136223846793005 + 1442695040888963407
	return int(uint64(*d)>>33) % n
}

func (d *dice) word() uint16 { return uint16(d.next(65536)) }

func (d *dice) words(n int) []uint16 {
	list := make([]uint16, n)
	for i := range list {
		list[i] = d.word()
	}
	return list
}

// unit: n words, all 0 but the one at place j.
func unit(n, j int, c uint16) []uint16 {
	list := make([]uint16, n)
	list[j] = c
	return list
}

// powersOfTwo: 1 to the most.
func powersOfTwo(most int) []int {
	var list []int
	for n := 1; n <= most; n *= 2 {
		list = append(list, n)
	}
	return list
}

// places: elements of which something may be special, and some of the dice.
func places() []uint16 {
	list := []uint16{0, 1, 2, 3, 4, 0x8000, 0x1234, 0xFFFF, 0xFFFE, 0x002D}
	for i := range 16 {
		list = append(list, long.w[1<<i], long.w[1<<i-1], long.w[1<<i+1], long.w[1<<16-1<<i])
	}
	d := dice(1)
	return append(list, d.words(6)...)
}

// few: a list as a message can tell it.
func few(list []uint16) string {
	if len(list) > 12 {
		return fmt.Sprintf("%d of them: %x", len(list), list[:12])
	}
	return fmt.Sprintf("%x", list)
}

// wants: the answer is the list that is wanted, and OK.
func wants(t *testing.T, what string, list []uint16, e api.Errno, want []uint16) {
	t.Helper()
	if e != api.OK || !slices.Equal(list, want) {
		t.Errorf("%s = %s, %d, want %s", what, few(list), e, few(want))
	}
}

// refuses: the answer is that error, and nothing beside it.
func refuses(t *testing.T, what string, list []uint16, e, want api.Errno) {
	t.Helper()
	if e != want || len(list) != 0 {
		t.Errorf("%s = %d words, %d, want the error %d alone", what, len(list), e, want)
	}
}

// wantsWord: the answer is that word, and OK.
func wantsWord(t *testing.T, what string, y uint16, e api.Errno, want uint16) {
	t.Helper()
	if e != api.OK || y != want {
		t.Errorf("%s = %x, %d, want %x", what, y, e, want)
	}
}

// refusesWord: the answer is that error, and 0 beside it.
func refusesWord(t *testing.T, what string, y uint16, e, want api.Errno) {
	t.Helper()
	if e != want || y != 0 {
		t.Errorf("%s = %x, %d, want 0 and the error %d", what, y, e, want)
	}
}

// ends: the ends of int, and numbers whose low bits look harmless.
func ends() []int {
	return []int{math.MinInt, math.MinInt + 1, math.MinInt + 16, math.MinInt32, -1 << 32, -1<<32 + 3, -65536, -65535, -256, -17, -16, -2, -1, 1<<17 + 1, 1 << 31, 1 << 32, 1<<32 + 1, 1<<32 + 5, 1<<40 + 2, 1 << 62, math.MaxInt32, math.MaxInt - 65535, math.MaxInt - 1, math.MaxInt}
}

// wrongLevels: numbers that no subspace polynomial has.
func wrongLevels() []int {
	return append(ends(), 17, 18, 19, 31, 32, 33, 63, 64, 65, 127, 128, 255, 256, 257, 65535, 65536, 65537)
}

// wrongIndices: numbers that are no index.
func wrongIndices() []int {
	return append(ends(), 65536, 65537, 65538, 65551, 65552, 131071, 131072)
}
