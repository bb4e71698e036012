package walsh

import (
	"fmt"
	"math"
	"math/bits"
	"slices"
	"testing"

	"cullet/api"
)

// What the tests hold the package against is worked out here by the chapter's words, without a call of the package or of the layers below: transforms as sums with signs, elements by roots that are looked for, locators as products.

// transform: at each place the sum of all numbers, minus where the two places share an odd number of bits.
func transform(v []uint16) []uint16 {
	list := make([]uint16, len(v))
	for i := range list {
		list[i] = transformAt(v, i)
	}
	return list
}

func transformAt(v []uint16, i int) uint16 {
	total := 0
	for j, x := range v {
		if bits.OnesCount(uint(i&j))%2 == 1 {
			total -= int(x)
		} else {
			total += int(x)
		}
	}
	return residue(total)
}

// residue: from 0 to 65534, of numbers below 0 too.
func residue(n int) uint16 { return uint16((n%65535 + 65535) % 65535) }

// residues: each number of the list from 0 to 65534.
func residues(list []uint16) []uint16 {
	var all []uint16
	for _, x := range list {
		all = append(all, residue(int(x)))
	}
	return all
}

// convolution: the sums of products over all pairs.
func convolution(a, b []uint16) []uint16 {
	totals := make([]int, len(a))
	for i, x := range a {
		for j, y := range b {
			totals[i^j] += int(x) * int(y) % 65535
		}
	}
	var list []uint16
	for _, n := range totals {
		list = append(list, residue(n))
	}
	return list
}

// field16: the field of 65536: powers of 2 and logarithms, by shifts, and the element of each index.
type field16 struct {
	powers [65535]uint16
	logs   [65536]int
	w      [65536]uint16
}

// long: the field of 65536 as the tests have it.
var long = makeField16()

func makeField16() *field16 {
	f := &field16{}
	p := 1
	for n := range f.powers {
		f.powers[n], f.logs[p] = uint16(p), n
		p = product(p, 2)
	}
	basis := cantor()
	for i := range f.w {
		for t, b := range basis {
			if i>>t&1 == 1 {
				f.w[i] ^= b
			}
		}
	}
	return f
}

// product: the remainder of the product of two polynomials, the whole product first.
func product(a, b int) int {
	whole := 0
	for i := range 16 {
		if a>>i&1 == 1 {
			whole ^= b << i
		}
	}
	for i := 30; i >= 16; i-- {
		if whole>>i&1 == 1 {
			whole ^= 0x1002D << (i - 16)
		}
	}
	return whole
}

// cantor: 1, and behind each element the even one whose square and itself have it as their sum.
func cantor() []uint16 {
	even := make([]uint16, 65536)
	for y := 0; y < 65536; y += 2 {
		even[product(y, y)^y] = uint16(y)
	}
	basis := []uint16{1}
	for len(basis) < 16 {
		basis = append(basis, even[basis[len(basis)-1]])
	}
	return basis
}

func (f *field16) mul(a, b uint16) uint16 {
	if a == 0 || b == 0 {
		return 0
	}
	return f.powers[(f.logs[a]+f.logs[b])%65535]
}

// locatorAt: the product of the differences from w(i) to all lost elements but itself.
func (f *field16) locatorAt(lost []int, i int) uint16 {
	p := uint16(1)
	for _, e := range lost {
		if e != i {
			p = f.mul(p, f.w[i]^f.w[e])
		}
	}
	return p
}

// dice: numbers that look like no pattern.
type dice uint64

func (d *dice) next(n int) int {
	*d = *d*6364136223846793005 + 1442695040888963407
	return int(uint64(*d)>>33) % n
}

func (d *dice) words(n int) []uint16 {
	list := make([]uint16, n)
	for i := range list {
		list[i] = uint16(d.next(65536))
	}
	return list
}

// indices: those below n that the dice choose, about one of every so many; rising.
func (d *dice) indices(n, every int) []int {
	var list []int
	for i := range n {
		if d.next(every) == 0 {
			list = append(list, i)
		}
	}
	return list
}

// upTo: 0, 1, .., n - 1.
func upTo(n int) []int {
	var list []int
	for i := range n {
		list = append(list, i)
	}
	return list
}

// unit: n numbers, all 0 but the one at place j.
func unit(n, j int, c uint16) []uint16 {
	list := make([]uint16, n)
	list[j] = c
	return list
}

// powersOfTwo: from the least to the most.
func powersOfTwo(least, most int) []int {
	var list []int
	for n := least; n <= most; n *= 2 {
		list = append(list, n)
	}
	return list
}

// somePlaces: of a list of n numbers: the ends, the middle, and some of the dice.
func (d *dice) somePlaces(n int) []int {
	return []int{0, n - 1, n / 2, n/2 - 1, 1, d.next(n), d.next(n), d.next(n), d.next(n), d.next(n)}
}

// wrongLengths: no powers of two from 1 to 65536.
func wrongLengths() []int {
	return []int{0, 3, 5, 6, 7, 9, 10, 12, 15, 17, 24, 31, 33, 63, 65, 96, 255, 257, 768, 1000, 4095, 4097, 32767, 32769, 49152, 65534, 65535, 65537, 65538, 98304, 131072, 131073, 196608, 262144}
}

// wrongRanges: no r from 0 to 16.
func wrongRanges() []int {
	return []int{math.MinInt, math.MinInt + 1, math.MinInt + 16, math.MinInt32, -1 << 32, -65536, -64, -17, -16, -2, -1, 17, 18, 31, 32, 33, 62, 63, 64, 65, 80, 255, 256, 65536, 1 << 32, 1<<32 + 2, 1 << 62, math.MaxInt32, math.MaxInt - 1, math.MaxInt}
}

// brief: a list as a message can tell it.
func brief[T int | uint16](list []T) string {
	if len(list) > 12 {
		return fmt.Sprintf("%d of them: %d", len(list), list[:12])
	}
	return fmt.Sprintf("%d", list)
}

// wants: the answer is the list that is wanted, and OK.
func wants(t *testing.T, what string, list []uint16, e api.Errno, want []uint16) {
	t.Helper()
	if e != api.OK || !slices.Equal(list, want) {
		t.Errorf("%s = %s, %d, want %s", what, brief(list), e, brief(want))
	}
}

// refuses: the answer is that error, and nothing beside it.
func refuses(t *testing.T, what string, list []uint16, e, want api.Errno) {
	t.Helper()
	if e != want || len(list) != 0 {
		t.Errorf("%s = %d numbers, %d, want the error %d alone", what, len(list), e, want)
	}
}
