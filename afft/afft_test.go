package afft

import (
	"fmt"
	"slices"
	"testing"

	"cullet/api"
)

// listCall: Forward or Inverse.
type listCall struct {
	name string
	run  func(list []uint16, shift int) ([]uint16, api.Errno)
}

func listCalls() []listCall { return []listCall{{"Forward", Forward}, {"Inverse", Inverse}} }

// bothWays: Forward of d is v, and Inverse of v is d.
func bothWays(t *testing.T, d []uint16, shift int, v []uint16) {
	t.Helper()
	list, e := Forward(d, shift)
	wants(t, fmt.Sprintf("Forward(%s, %d)", brief(d), shift), list, e, v)
	list, e = Inverse(v, shift)
	wants(t, fmt.Sprintf("Inverse(%s, %d)", brief(v), shift), list, e, d)
}

// P14.1 and P14.2

func TestExamples(t *testing.T) {
	bothWays(t, []uint16{7}, 5, []uint16{7})
	bothWays(t, []uint16{7}, 65535, []uint16{7})
	bothWays(t, []uint16{7, 1}, 0, []uint16{7, 6})
	bothWays(t, []uint16{0, 1}, 2, []uint16{0xACCA, 0xACCB})
	for shift := 0; shift < 65536; shift += 4 {
		bothWays(t, []uint16{5, 0, 0, 0}, shift, []uint16{5, 5, 5, 5})
	}
}

// Every size, all points of some cosets.
func TestEverySize(t *testing.T) {
	d := dice(10)
	for _, n := range powersOfTwo(1, 512) {
		for _, shift := range beginnings(n) {
			list := d.words(n)
			bothWays(t, list, shift, long.values(list, shift))
		}
	}
}

// Every coset, of some sizes.
func TestEveryBeginning(t *testing.T) {
	d := dice(11)
	for _, n := range []int{1, 2, 4, 8, 32} {
		for shift := 0; shift < 65536; shift += n {
			list := d.words(n)
			bothWays(t, list, shift, long.values(list, shift))
		}
	}
}

// Each polynomial of the basis has its own values.
func TestEveryPolynomialOfTheBasis(t *testing.T) {
	for _, n := range powersOfTwo(1, 64) {
		for _, shift := range beginnings(n) {
			for j := range n {
				v := make([]uint16, n)
				for i := range v {
					v[i] = long.basis(j, long.w[shift+i])
				}
				bothWays(t, unit(n, j, 1), shift, v)
			}
		}
	}
}

// The great sizes: all values of single polynomials of the basis, times a factor.
func TestGreatBasis(t *testing.T) {
	d := dice(12)
	for _, n := range powersOfTwo(1024, 65536) {
		for _, shift := range beginnings(n) {
			for _, j := range []int{0, 1, n / 2, n - 1, d.next(n)} {
				c := d.word()
				v := make([]uint16, n)
				for i := range v {
					v[i] = long.mul(c, long.basis(j, long.w[shift+i]))
				}
				bothWays(t, unit(n, j, c), shift, v)
			}
		}
	}
}

// The great sizes: some values of polynomials with many coefficients, and the way back.
func TestGreatSizes(t *testing.T) {
	d := dice(13)
	for _, n := range powersOfTwo(1024, 65536) {
		for _, shift := range beginnings(n) {
			list := d.words(n)
			v, e := Forward(list, shift)
			if e != api.OK || len(v) != n {
				t.Fatalf("Forward of %d coefficients at %d: %d values, %d", n, shift, len(v), e)
			}
			for _, i := range []int{0, 1, n/2 - 1, n / 2, n - 1, d.next(n), d.next(n), d.next(n)} {
				if y := long.value(list, long.w[shift+i]); v[i] != y {
					t.Errorf("Forward of %d coefficients at %d: value %d is %x, want %x", n, shift, i, v[i], y)
				}
			}
			bothWays(t, list, shift, v)
			// Values that were made by no Forward have a polynomial too.
			back, e := Inverse(list, shift)
			if e != api.OK || len(back) != n {
				t.Fatalf("Inverse of %d values at %d: %d coefficients, %d", n, shift, len(back), e)
			}
			for _, i := range []int{0, n - 1, d.next(n), d.next(n)} {
				if y := long.value(back, long.w[shift+i]); list[i] != y {
					t.Errorf("Inverse of %d values at %d: the polynomial is %x at place %d, want %x", n, shift, y, i, list[i])
				}
			}
			bothWays(t, back, shift, list)
		}
	}
}

// Words of which something may be special: all zeros, all ones, single bits.
func TestSpecialWords(t *testing.T) {
	for _, n := range []int{1, 2, 8, 32, 128} {
		for _, shift := range beginnings(n) {
			for _, c := range []uint16{0, 1, 2, 0x8000, 0x000F, 0xF000, 0xFFFF} {
				list := slices.Repeat([]uint16{c}, n)
				bothWays(t, list, shift, long.values(list, shift))
			}
		}
	}
}

func TestNoPowerOfTwo(t *testing.T) {
	for _, c := range listCalls() {
		for _, n := range wrongLengths() {
			for _, shift := range append(ends(), 0, 1, 3, n) {
				list, e := c.run(make([]uint16, n), shift)
				refuses(t, fmt.Sprintf("%s of %d words at %d", c.name, n, shift), list, e, api.ErrPower)
			}
		}
		list, e := c.run(nil, 0)
		refuses(t, c.name+" of nil", list, e, api.ErrPower)
	}
}

func TestNoCoset(t *testing.T) {
	for _, c := range listCalls() {
		for _, n := range powersOfTwo(1, 65536) {
			for _, shift := range wrongBeginnings(n) {
				list, e := c.run(make([]uint16, n), shift)
				refuses(t, fmt.Sprintf("%s of %d words at %d", c.name, n, shift), list, e, api.ErrCoset)
			}
		}
		for shift := range 65536 {
			if shift%8 != 0 {
				list, e := c.run(make([]uint16, 8), shift)
				refuses(t, fmt.Sprintf("%s of 8 words at %d", c.name, shift), list, e, api.ErrCoset)
			}
		}
	}
}

// P14.4

func TestExtendExamples(t *testing.T) {
	list, e := Extend([]uint16{5, 5}, 0, 6)
	wants(t, "Extend of 5 5", list, e, []uint16{5, 5})
	list, e = Extend([]uint16{7, 6}, 0, 2)
	wants(t, "Extend of 7 6", list, e, []uint16{7 ^ 0xACCA, 7 ^ 0xACCB})
}

func TestExtend(t *testing.T) {
	d := dice(14)
	for _, n := range powersOfTwo(1, 256) {
		for _, from := range beginnings(n) {
			for _, to := range beginnings(n) {
				list := d.words(n)
				v, e := Extend(long.values(list, from), from, to)
				wants(t, fmt.Sprintf("Extend of %d values from %d to %d", n, from, to), v, e, long.values(list, to))
			}
		}
	}
}

func TestExtendOfGreatSizes(t *testing.T) {
	d := dice(15)
	for _, n := range powersOfTwo(1024, 65536) {
		all := beginnings(n)
		for at, from := range all {
			to := all[len(all)-1-at]
			j, c := d.next(n), d.word()
			v, want := make([]uint16, n), make([]uint16, n)
			for i := range v {
				v[i] = long.mul(c, long.basis(j, long.w[from+i]))
				want[i] = long.mul(c, long.basis(j, long.w[to+i]))
			}
			list, e := Extend(v, from, to)
			wants(t, fmt.Sprintf("Extend of %d values from %d to %d", n, from, to), list, e, want)
		}
	}
}

// From a coset to itself nothing changes, and there and back neither.
func TestExtendAndBack(t *testing.T) {
	d := dice(16)
	for _, n := range powersOfTwo(1, 65536) {
		v := d.words(n)
		from, to := 0, 65536-n
		list, e := Extend(v, to, to)
		wants(t, fmt.Sprintf("Extend of %d values to the same coset", n), list, e, v)
		there, e := Extend(v, from, to)
		if e != api.OK {
			t.Fatalf("Extend of %d values: %d", n, e)
		}
		list, e = Extend(there, to, from)
		wants(t, fmt.Sprintf("Extend of %d values, there and back", n), list, e, v)
	}
}

func TestExtendRefuses(t *testing.T) {
	for _, n := range wrongLengths() {
		for _, shift := range []int{0, -1, 1, 65536} {
			list, e := Extend(make([]uint16, n), shift, 0)
			refuses(t, fmt.Sprintf("Extend of %d values from %d", n, shift), list, e, api.ErrPower)
			list, e = Extend(make([]uint16, n), 0, shift)
			refuses(t, fmt.Sprintf("Extend of %d values to %d", n, shift), list, e, api.ErrPower)
		}
	}
	for _, n := range []int{1, 2, 16, 1024, 65536} {
		for _, wrong := range wrongBeginnings(n) {
			list, e := Extend(make([]uint16, n), wrong, 0)
			refuses(t, fmt.Sprintf("Extend of %d values from %d", n, wrong), list, e, api.ErrCoset)
			list, e = Extend(make([]uint16, n), 0, wrong)
			refuses(t, fmt.Sprintf("Extend of %d values to %d", n, wrong), list, e, api.ErrCoset)
			list, e = Extend(make([]uint16, n), wrong, wrong)
			refuses(t, fmt.Sprintf("Extend of %d values from and to %d", n, wrong), list, e, api.ErrCoset)
		}
	}
}

// P14.5

func TestFoldExamples(t *testing.T) {
	list, e := Fold([]uint16{5, 5, 3, 3}, 2, 2)
	wants(t, "Fold of 5 5 3 3", list, e, []uint16{6, 0})
	list, e = Fold([]uint16{5, 5, 3}, 2, 0)
	refuses(t, "Fold of 5 5 3", list, e, api.ErrLens)
	list, e = Fold(nil, 2, 0)
	refuses(t, "Fold of nothing", list, e, api.ErrLens)
	list, e = Fold([]uint16{0xBEEF}, 1, 9)
	wants(t, "Fold of one value", list, e, []uint16{0xBEEF})
}

// folds: pieces of n values made of coefficients of the dice, and the sum of these.
func folds(t *testing.T, d *dice, n, pieces, shift int) {
	t.Helper()
	sum := make([]uint16, n)
	var v []uint16
	for p := range pieces {
		part := d.words(n)
		sum = plus(sum, part)
		v = append(v, long.values(part, shift+p*n)...)
	}
	list, e := Fold(v, n, shift)
	wants(t, fmt.Sprintf("Fold of %d pieces of %d values at %d", pieces, n, shift), list, e, sum)
}

func TestFold(t *testing.T) {
	d := dice(17)
	for _, n := range powersOfTwo(1, 128) {
		for pieces := 1; pieces <= 9; pieces++ {
			for _, shift := range []int{0, n, 3 * n, 32768 - n, 65536 - pieces*n} {
				folds(t, &d, n, pieces, shift)
			}
		}
	}
}

// As many values as there are elements.
func TestFoldOfAll(t *testing.T) {
	d := dice(18)
	for _, n := range []int{1, 2, 4, 16, 64} {
		folds(t, &d, n, 65536/n, 0)
		folds(t, &d, n, 65536/n-1, n)
	}
	for _, n := range powersOfTwo(256, 65536) {
		v := d.words(65536)
		sum := make([]uint16, n)
		for at := 0; at < len(v); at += n {
			part, e := Inverse(v[at:at+n], at)
			if e != api.OK {
				t.Fatalf("Inverse of %d values at %d: %d", n, at, e)
			}
			sum = plus(sum, part)
		}
		list, e := Fold(v, n, 0)
		wants(t, fmt.Sprintf("Fold of all values by %d", n), list, e, sum)
	}
}

func TestFoldByNoPower(t *testing.T) {
	for _, n := range wrongPowers() {
		for _, length := range []int{0, 1, 2, 3, 15, 96, 65535, 65536, 65537, 131072} {
			for _, shift := range []int{0, -1, 1, 65536} {
				list, e := Fold(make([]uint16, length), n, shift)
				refuses(t, fmt.Sprintf("Fold of %d values by %d at %d", length, n, shift), list, e, api.ErrPower)
			}
		}
	}
}

func TestFoldOfNoMultiple(t *testing.T) {
	for _, n := range powersOfTwo(1, 65536) {
		for _, length := range []int{0, 1, 3, n / 2, n - 1, n + 1, n + n/2, 2*n - 1, 3*n + 1, 65535, 65537, 131073} {
			if length != 0 && length%n == 0 {
				continue
			}
			for _, shift := range append(ends(), 0, 1, n) {
				list, e := Fold(make([]uint16, length), n, shift)
				refuses(t, fmt.Sprintf("Fold of %d values by %d at %d", length, n, shift), list, e, api.ErrLens)
			}
		}
	}
}

func TestFoldOfNoCosets(t *testing.T) {
	for _, n := range powersOfTwo(1, 65536) {
		for _, shift := range wrongBeginnings(n) {
			list, e := Fold(make([]uint16, n), n, shift)
			refuses(t, fmt.Sprintf("Fold of %d values by %d at %d", n, n, shift), list, e, api.ErrCoset)
		}
		// The first piece has a coset, the last one has none.
		for _, pieces := range []int{2, 3, 5, 65536/n + 1, 131072 / n} {
			for _, shift := range []int{65536 - pieces*n + n, 65536 - n} {
				if shift < 0 {
					shift = 0
				}
				if shift+pieces*n <= 65536 {
					continue
				}
				list, e := Fold(make([]uint16, pieces*n), n, shift)
				refuses(t, fmt.Sprintf("Fold of %d values by %d at %d", pieces*n, n, shift), list, e, api.ErrCoset)
			}
		}
	}
}
