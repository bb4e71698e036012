package afft

import (
	"fmt"
	"math"
	"math/bits"
	"slices"
	"testing"

	"cullet/api"
)

// What the tests hold the package against is worked out here by the chapter's words, without a call of the package or of the layers below: products by logarithms, elements by roots that are looked for, values of polynomials as sums over the basis.

// field16: the field of 65536: powers of 2 and logarithms, by shifts; the element of each index; and the values of every subspace polynomial of the basis at every element.
type field16 struct {
	powers [65535]uint16
	logs   [65536]int
	w      [65536]uint16
	s      [16][65536]uint16
}

// long: the field of 65536 as the tests have it.
var long = makeField16()

func makeField16() *field16 {
	f := &field16{}
	p := 1
	for n := range f.powers {
		f.powers[n], f.logs[p] = uint16(p), n
		p = product(p, 2)
	}
	basis := f.cantor()
	for i := range f.w {
		for t, b := range basis {
			if i>>t&1 == 1 {
				f.w[i] ^= b
			}
		}
	}
	for x := range 65536 {
		y := uint16(x)
		for t := range f.s {
			f.s[t][x] = y
			y ^= f.mul(y, y)
		}
	}
	return f
}

// product: the remainder of the product of two polynomials, the whole product first.
func product(a, b int) int {
	whole := 0
	for i := range 16 {
		if a>>i&1 == 1 {
			whole ^= b << i
		}
	}
	for i := 30; i >= 16; i-- {
		if whole>>i&1 == 1 {
			whole ^= 0x1002D << (i - 16)
		}
	}
	return whole
}

// cantor: 1, and behind each element the even one whose square and itself have it as their sum.
func (f *field16) cantor() []uint16 {
	even := make([]uint16, 65536)
	for y := 0; y < 65536; y += 2 {
		even[product(y, y)^y] = uint16(y)
	}
	basis := []uint16{1}
	for len(basis) < 16 {
		basis = append(basis, even[basis[len(basis)-1]])
	}
	return basis
}

func (f *field16) mul(a, b uint16) uint16 {
	if a == 0 || b == 0 {
		return 0
	}
	return f.powers[(f.logs[a]+f.logs[b])%65535]
}

// vanishing: s_t at x by its definition, a product over 2^t points.
func (f *field16) vanishing(t int, x uint16) uint16 {
	p := uint16(1)
	for l := range 1 << t {
		p = f.mul(p, x^f.w[l])
	}
	return p
}

// basis: X_j at x.
func (f *field16) basis(j int, x uint16) uint16 {
	p := uint16(1)
	for t := range 16 {
		if j>>t&1 == 1 {
			p = f.mul(p, f.s[t][x])
		}
	}
	return p
}

// value: at x of the polynomial with the coefficients d. Each X_j but the first is one of fewer factors, times the factor of its lowest bit.
func (f *field16) value(d []uint16, x uint16) uint16 {
	bases := make([]uint16, len(d))
	bases[0] = 1
	y := d[0]
	for j := 1; j < len(d); j++ {
		bases[j] = f.mul(bases[j&(j-1)], f.s[bits.TrailingZeros(uint(j))][x])
		y ^= f.mul(d[j], bases[j])
	}
	return y
}

// values: on the coset that begins at shift, of as many points as there are coefficients.
func (f *field16) values(d []uint16, shift int) []uint16 {
	list := make([]uint16, len(d))
	for i := range list {
		list[i] = f.value(d, f.w[shift+i])
	}
	return list
}

// The tables of s are made from step to step; the chapter defines s_t as a product.
func TestTheTestsOwnField(t *testing.T) {
	d := dice(1)
	for n := range 16 {
		for range 3 {
			if x := d.word(); long.s[n][x] != long.vanishing(n, x) {
				t.Fatalf("s_%d at %x is %x, want %x", n, x, long.s[n][x], long.vanishing(n, x))
			}
		}
	}
	for range 100 {
		j, x := d.next(256), d.word()
		if y := long.value(unit(256, j, 1), x); y != long.basis(j, x) {
			t.Fatalf("X_%d at %x is %x, want %x", j, x, y, long.basis(j, x))
		}
	}
}

// dice: numbers that look like no pattern.
type dice uint64

func (d *dice) next(n int) int {
	*d = *d*6364136223846793005 + 1442695040888963407
	return int(uint64(*d)>>33) % n
}

func (d *dice) word() uint16 { return uint16(d.next(65536)) }

func (d *dice) words(n int) []uint16 {
	list := make([]uint16, n)
	for i := range list {
		list[i] = d.word()
	}
	return list
}

// rows: n of them, each of so many words.
func (d *dice) rows(n, width int) [][]uint16 {
	list := make([][]uint16, n)
	for i := range list {
		list[i] = d.words(width)
	}
	return list
}

// unit: n words, all 0 but the one at place j.
func unit(n, j int, c uint16) []uint16 {
	list := make([]uint16, n)
	list[j] = c
	return list
}

// column: the words at place c of the rows.
func column(rows [][]uint16, c int) []uint16 {
	var list []uint16
	for _, row := range rows {
		list = append(list, row[c])
	}
	return list
}

// cloned: the rows in memory of their own.
func cloned(rows [][]uint16) [][]uint16 {
	var list [][]uint16
	for _, row := range rows {
		list = append(list, slices.Clone(row))
	}
	return list
}

func sameRows(a, b [][]uint16) bool { return slices.EqualFunc(a, b, slices.Equal[[]uint16]) }

// plus: the sum of two lists of one length.
func plus(a, b []uint16) []uint16 {
	list := slices.Clone(a)
	for i, w := range b {
		list[i] ^= w
	}
	return list
}

// powersOfTwo: from the least to the most.
func powersOfTwo(least, most int) []int {
	var list []int
	for n := least; n <= most; n *= 2 {
		list = append(list, n)
	}
	return list
}

// beginnings: of cosets of n points: the first two, the last one, those about the middle, and some of the dice.
func beginnings(n int) []int {
	list := []int{0, n, 32768 - n, 32768, 65536 - n}
	d := dice(n)
	for range 4 {
		list = append(list, d.next(65536/n)*n)
	}
	list = slices.DeleteFunc(list, func(shift int) bool { return shift%n != 0 || shift < 0 || shift+n > 65536 })
	slices.Sort(list)
	return slices.Compact(list)
}

// wrongLengths: no powers of two from 1 to 65536.
func wrongLengths() []int {
	return []int{0, 3, 5, 6, 7, 9, 10, 12, 15, 17, 24, 31, 33, 63, 65, 96, 255, 257, 768, 1000, 4095, 4097, 32767, 32769, 49152, 65534, 65535, 65537, 65538, 98304, 131072, 131073, 196608, 262144}
}

// wrongPowers: the same and the ends of int.
func wrongPowers() []int {
	list := append(ends(), wrongLengths()...)
	return slices.DeleteFunc(list, func(n int) bool { return n == 65536 })
}

// ends: the ends of int, and numbers whose low bits look harmless. None of them begins a coset.
func ends() []int {
	return []int{math.MinInt, math.MinInt + 1, math.MinInt + 65536, math.MinInt32, -1 << 32, -1<<32 + 65536, -131072, -65537, -65536, -65535, -32768, -256, -16, -4, -2, -1, 65536, 65537, 65538, 131072, 1 << 31, 1 << 32, 1<<32 + 1, 1<<40 + 2, 1 << 62, math.MaxInt32, math.MaxInt - 65535, math.MaxInt - 1, math.MaxInt}
}

// wrongBeginnings: numbers at which no coset of n points begins.
func wrongBeginnings(n int) []int {
	list := append(ends(), -n, 65536, 65536+n)
	if n > 1 {
		list = append(list, 1, n-1, n+1, n/2, n+n/2, 65535, 65536-n+1, 65536-n/2, 65536-n-1)
	}
	return slices.DeleteFunc(list, func(shift int) bool { return shift >= 0 && shift%n == 0 && shift <= 65536-n })
}

// brief: a list as a message can tell it.
func brief(list []uint16) string {
	if len(list) > 12 {
		return fmt.Sprintf("%d of them: %x", len(list), list[:12])
	}
	return fmt.Sprintf("%x", list)
}

// wants: the answer is the list that is wanted, and OK.
func wants(t *testing.T, what string, list []uint16, e api.Errno, want []uint16) {
	t.Helper()
	if e != api.OK || !slices.Equal(list, want) {
		t.Errorf("%s = %s, %d, want %s", what, brief(list), e, brief(want))
	}
}

// refuses: the answer is that error, and nothing beside it.
func refuses(t *testing.T, what string, list []uint16, e, want api.Errno) {
	t.Helper()
	if e != want || len(list) != 0 {
		t.Errorf("%s = %d words, %d, want the error %d alone", what, len(list), e, want)
	}
}

// wantsRows: the call is OK, and the rows are those that are wanted.
func wantsRows(t *testing.T, what string, rows [][]uint16, e api.Errno, want [][]uint16) {
	t.Helper()
	if e != api.OK || !sameRows(rows, want) {
		t.Errorf("%s: %d, and the %d rows aren't those that are wanted", what, e, len(rows))
	}
}
