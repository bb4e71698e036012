package lch

import (
	"fmt"
	"slices"
	"testing"

	"cullet/api"
)

// The tests' own polynomials have the values of the basis, and X_j has the degree j.
func TestTheTestsOwnPolynomials(t *testing.T) {
	d := dice(20)
	for _, x := range append(places(), d.words(10)...) {
		for j, want := range long.bases(256, x) {
			if y := long.at(powers[j], x); y != want {
				t.Fatalf("X_%d at %x is %x in powers, %x as a product", j, x, y, want)
			}
		}
	}
	for j, list := range powers {
		if len(list) != j+1 || list[j] != 1 {
			t.Fatalf("X_%d has %d coefficients", j, len(list))
		}
	}
}

// P13.6

func TestMonomialExamples(t *testing.T) {
	for _, c := range []struct{ d, f []uint16 }{
		{[]uint16{0, 0, 1, 0}, []uint16{0, 1, 1, 0}},
		{[]uint16{0, 1, 1, 0}, []uint16{0, 0, 1, 0}},
		{[]uint16{5}, []uint16{5}},
		{[]uint16{0}, []uint16{0}},
		{[]uint16{3, 4}, []uint16{3, 4}},
		{[]uint16{0, 0, 0, 1}, []uint16{0, 0, 1, 1}},
		{[]uint16{0, 0, 0, 0, 1, 0, 0, 0}, []uint16{0, 1, 0, 0, 1, 0, 0, 0}},
		{make([]uint16, 256), make([]uint16, 256)},
	} {
		f, e := ToMonomials(c.d)
		wants(t, "ToMonomials of "+few(c.d), f, e, c.f)
		d, e := FromMonomials(c.f)
		wants(t, "FromMonomials of "+few(c.f), d, e, c.d)
	}
	f, e := ToMonomials([]uint16{1, 2, 3})
	refuses(t, "ToMonomials([1, 2, 3])", f, e, api.ErrPower)
}

// Each polynomial of the basis alone, in lists of each length that has its place.
func TestMonomialsOfTheBasis(t *testing.T) {
	d := dice(21)
	for _, n := range powersOfTwo(256) {
		for j := range n {
			for _, c := range []uint16{1, 0x8000, d.word()} {
				list := unit(n, j, c)
				f, e := ToMonomials(list)
				wants(t, fmt.Sprintf("ToMonomials of %x at place %d of %d", c, j, n), f, e, powers.of(list))
			}
		}
	}
}

func TestToMonomials(t *testing.T) {
	d := dice(22)
	for _, n := range powersOfTwo(256) {
		for range 30 {
			list := d.words(n)
			f, e := ToMonomials(list)
			wants(t, "ToMonomials of "+few(list), f, e, powers.of(list))
		}
	}
}

// The answer means the polynomial that was given, which only one list does.
func TestFromMonomials(t *testing.T) {
	d := dice(23)
	for _, n := range powersOfTwo(256) {
		for round := range n + 30 {
			f := d.words(n)
			if round < n {
				f = unit(n, round, d.word())
			}
			list, e := FromMonomials(f)
			if e != api.OK || len(list) != n {
				t.Fatalf("FromMonomials of %s = %s, %d", few(f), few(list), e)
			}
			wants(t, "FromMonomials of "+few(f)+", back in powers", powers.of(list), e, f)
		}
	}
}

// There and back, and back and there.
func TestMonomialsThereAndBack(t *testing.T) {
	d := dice(24)
	for _, n := range powersOfTwo(256) {
		for range 30 {
			list := d.words(n)
			f, _ := ToMonomials(list)
			back, e := FromMonomials(f)
			wants(t, "FromMonomials of ToMonomials", back, e, list)
			f, _ = FromMonomials(list)
			back, e = ToMonomials(f)
			wants(t, "ToMonomials of FromMonomials", back, e, list)
		}
	}
}

// Both lists have the same values.
func TestMonomialsHaveTheValuesOfEval(t *testing.T) {
	d := dice(25)
	for _, n := range powersOfTwo(256) {
		for range 10 {
			list, x := d.words(n), d.word()
			f, _ := ToMonomials(list)
			y, e := Eval(list, x)
			wantsWord(t, fmt.Sprintf("Eval of %d words at %x", n, x), y, e, long.at(f, x))
			back, _ := FromMonomials(list)
			y, e = Eval(back, x)
			wantsWord(t, fmt.Sprintf("Eval of FromMonomials of %d words at %x", n, x), y, e, long.at(list, x))
		}
	}
}

func TestMonomialsOfNoPower(t *testing.T) {
	d := dice(26)
	for n := range 1100 {
		list := d.words(n)
		f, e := ToMonomials(list)
		other, oe := FromMonomials(list)
		if slices.Contains(powersOfTwo(256), n) {
			if e != api.OK || oe != api.OK || len(f) != n || len(other) != n {
				t.Errorf("of %d words: %d and %d words, %d and %d", n, len(f), len(other), e, oe)
			}
			continue
		}
		refuses(t, fmt.Sprintf("ToMonomials of %d words", n), f, e, api.ErrPower)
		refuses(t, fmt.Sprintf("FromMonomials of %d words", n), other, oe, api.ErrPower)
	}
	for _, n := range []int{2048, 4096, 65535, 65536, 65537, 131072, 1 << 20} {
		f, e := ToMonomials(make([]uint16, n))
		refuses(t, fmt.Sprintf("ToMonomials of %d words", n), f, e, api.ErrPower)
		f, e = FromMonomials(make([]uint16, n))
		refuses(t, fmt.Sprintf("FromMonomials of %d words", n), f, e, api.ErrPower)
	}
}

// P13.7

func TestDerivativeExamples(t *testing.T) {
	for _, c := range []struct{ d, want []uint16 }{
		{[]uint16{9, 1, 2, 4}, []uint16{3, 4, 4, 0}},
		{[]uint16{9}, []uint16{0}},
		{[]uint16{9, 7}, []uint16{7, 0}},
		{[]uint16{0, 0, 0, 0, 1, 0, 0, 0}, []uint16{1, 0, 0, 0, 0, 0, 0, 0}},
		{[]uint16{0, 0, 0, 0, 0, 0, 0, 1}, []uint16{0, 0, 0, 1, 0, 1, 1, 0}},
		{make([]uint16, 65536), make([]uint16, 65536)},
	} {
		list, e := Derivative(c.d)
		wants(t, "Derivative of "+few(c.d), list, e, c.want)
	}
}

// sums: the derivative by the chapter's sum.
func sums(d []uint16) []uint16 {
	list := make([]uint16, len(d))
	for j := range list {
		for i := range 16 {
			if j>>i&1 == 0 && j+1<<i < len(d) {
				list[j] ^= d[j+1<<i]
			}
		}
	}
	return list
}

func TestDerivativeByItsSums(t *testing.T) {
	d := dice(27)
	for _, n := range powersOfTwo(65536) {
		for range 3 {
			list := d.words(n)
			got, e := Derivative(list)
			wants(t, "Derivative of "+few(list), got, e, sums(list))
		}
	}
}

// One coefficient alone at each place of the longest list: c * X_j becomes c at the places of j without one of its bits.
func TestDerivativeOfOneCoefficient(t *testing.T) {
	for _, j := range []int{0, 1, 2, 3, 255, 256, 257, 0x7FFF, 0x8000, 0x8001, 0xA5A5, 65535} {
		want := make([]uint16, 65536)
		for i := range 16 {
			if j>>i&1 == 1 {
				want[j-1<<i] = 0xBEEF
			}
		}
		got, e := Derivative(unit(65536, j, 0xBEEF))
		wants(t, fmt.Sprintf("Derivative of a coefficient at %d", j), got, e, want)
	}
}

// It is the formal derivative: that of the same polynomial in powers of x.
func TestDerivativeInPowers(t *testing.T) {
	d := dice(28)
	for _, n := range powersOfTwo(256) {
		for range 20 {
			list := d.words(n)
			got, e := Derivative(list)
			if e != api.OK || len(got) != n {
				t.Fatalf("Derivative of %s = %s, %d", few(list), few(got), e)
			}
			wants(t, "Derivative of "+few(list)+", in powers", powers.of(got), e, derived(powers.of(list)))
		}
	}
}

func TestDerivativeOfNoPower(t *testing.T) {
	d := dice(29)
	for n := range 1100 {
		list, e := Derivative(d.words(n))
		if slices.Contains(powersOfTwo(1024), n) {
			if e != api.OK || len(list) != n {
				t.Errorf("Derivative of %d words: %d words, %d", n, len(list), e)
			}
			continue
		}
		refuses(t, fmt.Sprintf("Derivative of %d words", n), list, e, api.ErrPower)
	}
	for _, n := range []int{32767, 32769, 49152, 65535, 65537, 131071, 131072, 1 << 18, 1 << 20} {
		list, e := Derivative(make([]uint16, n))
		refuses(t, fmt.Sprintf("Derivative of %d words", n), list, e, api.ErrPower)
	}
}
