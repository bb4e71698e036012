package lch

import (
	"fmt"
	"testing"

	"cullet/api"
)

// The tests' own field: the products by logarithms are those bit by bit, the basis has layer 3's first and last elements, and the values of the subspace polynomials are the products over their points.
func TestTheTestsOwnField(t *testing.T) {
	d := dice(2)
	for range 20000 {
		a, b := d.word(), d.word()
		if p := long.mul(a, b); int(p) != product(int(a), int(b)) {
			t.Fatalf("%x times %x = %x", a, b, p)
		}
	}
	if long.w[1] != 1 || long.w[2] != 0xACCA || long.w[4] != 0x3C0E || long.w[8] != 0x163E || long.w[1<<15] != 0x991E || long.w[65535] != 0xB091 {
		t.Errorf("the basis: %x", long.w[:9])
	}
	for i := range 17 {
		count := min(65536, 1<<20>>i)
		for n := range count {
			x := uint16(n)
			if count < 65536 {
				x = d.word()
			}
			if y := long.vanishing(i, x); y != long.s[i][x] {
				t.Fatalf("s_%d at %x is %x by its points, %x by squares", i, x, y, long.s[i][x])
			}
		}
	}
}

// P13.1

func TestVanishExamples(t *testing.T) {
	for x := range 65536 {
		x := uint16(x)
		y, e := Vanish(0, x)
		wantsWord(t, "Vanish(0, x)", y, e, x)
		y, e = Vanish(1, x)
		wantsWord(t, "Vanish(1, x)", y, e, uint16(product(int(x), int(x)))^x)
		y, e = Vanish(16, x)
		wantsWord(t, "Vanish(16, x)", y, e, 0)
	}
	y, e := Vanish(17, 0)
	refusesWord(t, "Vanish(17, 0)", y, e, api.ErrRange)
}

func TestVanishAtAllElements(t *testing.T) {
	for i := range 17 {
		for x := range 65536 {
			y, e := Vanish(i, uint16(x))
			wantsWord(t, fmt.Sprintf("Vanish(%d, %x)", i, x), y, e, long.s[i][x])
		}
	}
}

// By the definition itself, at some elements.
func TestVanishIsTheProductOverItsPoints(t *testing.T) {
	for i := range 17 {
		for n, x := range places() {
			if i > 10 && n%8 != 7 {
				continue
			}
			y, e := Vanish(i, x)
			wantsWord(t, fmt.Sprintf("Vanish(%d, %x)", i, x), y, e, long.vanishing(i, x))
		}
	}
}

// It is 0 at the elements of index below 2^i, and at no other.
func TestVanishIsZeroOnTheSubspaceAlone(t *testing.T) {
	for i := range 17 {
		for j, x := range long.w {
			if y, _ := Vanish(i, x); (y == 0) != (j < 1<<i) {
				t.Errorf("Vanish(%d, w(%d)) = %x", i, j, y)
			}
		}
	}
}

func TestVanishOfNoLevel(t *testing.T) {
	for _, i := range wrongLevels() {
		for _, x := range places() {
			y, e := Vanish(i, x)
			refusesWord(t, fmt.Sprintf("Vanish(%d, %x)", i, x), y, e, api.ErrRange)
		}
	}
}

// P13.2

func TestLinearExamples(t *testing.T) {
	for i, want := range [][]uint16{{1}, {1, 1}, {1, 0, 1}, {1, 1, 1, 1}, {1, 0, 0, 0, 1}, {1, 1, 0, 0, 1, 1}} {
		list, e := Linear(i)
		wants(t, fmt.Sprintf("Linear(%d)", i), list, e, want)
	}
	// x^65536 + x is 0 at every element.
	want := make([]uint16, 17)
	want[0], want[16] = 1, 1
	list, e := Linear(16)
	wants(t, "Linear(16)", list, e, want)
}

// Whole polynomials: no other power of x has a term.
func TestLinearHasAllTerms(t *testing.T) {
	for i := range 10 {
		list, e := Linear(i)
		if e != api.OK || len(list) != i+1 {
			t.Fatalf("Linear(%d) = %s, %d", i, few(list), e)
		}
		spread := make([]uint16, 1<<i+1)
		for k, c := range list {
			spread[1<<k] = c
		}
		wants(t, fmt.Sprintf("Linear(%d), spread", i), spread, e, long.subspace(i))
	}
}

// A polynomial of degree 2^i with the highest coefficient 1 that is 0 at 2^i points is the product over them.
func TestLinearIsZeroAtItsPoints(t *testing.T) {
	for i := range 17 {
		list, e := Linear(i)
		if e != api.OK || len(list) != i+1 || list[i] != 1 {
			t.Fatalf("Linear(%d) = %s, %d", i, few(list), e)
		}
		for _, x := range long.w[:1<<i] {
			if y := linearAt(list, x); y != 0 {
				t.Errorf("Linear(%d) is %x at %x", i, y, x)
			}
		}
	}
}

// linearAt: the sum of list[k] times x^(2^k).
func linearAt(list []uint16, x uint16) uint16 {
	y := uint16(0)
	for _, c := range list {
		y ^= long.mul(c, x)
		x = long.mul(x, x)
	}
	return y
}

// Linear and Vanish tell one polynomial.
func TestLinearHasTheValuesOfVanish(t *testing.T) {
	for i := range 17 {
		list, _ := Linear(i)
		for x := range 65536 {
			if y, _ := Vanish(i, uint16(x)); y != linearAt(list, uint16(x)) {
				t.Errorf("Vanish(%d, %x) = %x, Linear has %x", i, x, y, linearAt(list, uint16(x)))
			}
		}
	}
}

func TestLinearOfNoLevel(t *testing.T) {
	for _, i := range wrongLevels() {
		list, e := Linear(i)
		refuses(t, fmt.Sprintf("Linear(%d)", i), list, e, api.ErrRange)
	}
}

// P13.3

func TestSkewExamples(t *testing.T) {
	for _, c := range []struct{ i, j, index int }{{0, 5, 5}, {1, 2, 1}, {1, 3, 1}, {1, 1, 0}, {2, 7, 1}, {16, 65535, 0}, {15, 65535, 1}, {15, 32767, 0}, {0, 0, 0}, {0, 65535, 65535}} {
		y, e := Skew(c.i, c.j)
		wantsWord(t, fmt.Sprintf("Skew(%d, %d)", c.i, c.j), y, e, long.w[c.index])
	}
}

func TestSkewOfAllIndices(t *testing.T) {
	for i := range 17 {
		for j, x := range long.w {
			y, e := Skew(i, j)
			wantsWord(t, fmt.Sprintf("Skew(%d, %d)", i, j), y, e, long.s[i][x])
		}
	}
}

func TestSkewOfNoLevel(t *testing.T) {
	for _, i := range wrongLevels() {
		for _, j := range append(wrongIndices(), 0, 1, 2, 65535) {
			y, e := Skew(i, j)
			refusesWord(t, fmt.Sprintf("Skew(%d, %d)", i, j), y, e, api.ErrRange)
		}
	}
}

func TestSkewOfNoIndex(t *testing.T) {
	for i := range 17 {
		for _, j := range wrongIndices() {
			y, e := Skew(i, j)
			refusesWord(t, fmt.Sprintf("Skew(%d, %d)", i, j), y, e, api.ErrIndex)
		}
	}
}

// P13.4

func TestBasisExamples(t *testing.T) {
	for _, c := range []struct {
		j       int
		x, want uint16
	}{{0, 9, 1}, {1, 9, 9}, {0, 0, 1}, {1, 0, 0}, {3, 0xACCA, 0xACCA}, {2, 1, 0}, {6, 0x3C0E, 0xACCA}, {65535, 0, 0}} {
		y, e := Basis(c.j, c.x)
		wantsWord(t, fmt.Sprintf("Basis(%d, %x)", c.j, c.x), y, e, c.want)
	}
}

func TestBasisOfAllIndices(t *testing.T) {
	for _, x := range []uint16{0x1234, long.w[65535], long.w[40000], 1} {
		for j, want := range long.bases(65536, x) {
			y, e := Basis(j, x)
			wantsWord(t, fmt.Sprintf("Basis(%d, %x)", j, x), y, e, want)
		}
	}
}

func TestBasisAtAllElements(t *testing.T) {
	for _, j := range []int{0, 1, 2, 3, 5, 128, 255, 256, 0x8000, 0x8001, 0xA5A5} {
		for x := range 65536 {
			want := uint16(1)
			for i := range 16 {
				if j>>i&1 == 1 {
					want = long.mul(want, long.s[i][x])
				}
			}
			y, e := Basis(j, uint16(x))
			wantsWord(t, fmt.Sprintf("Basis(%d, %x)", j, x), y, e, want)
		}
	}
}

// It is 0 where one of its factors is: X_j at w(n) just where n is below the highest bit of j.
func TestBasisIsZeroBelowItsHighestBit(t *testing.T) {
	d := dice(3)
	for range 20000 {
		j, n := d.next(65536)>>d.next(17), d.next(65536)>>d.next(17)
		below := false
		for i := range 16 {
			below = below || j>>i&1 == 1 && n < 1<<i
		}
		if y, e := Basis(j, long.w[n]); e != api.OK || (y == 0) != below {
			t.Errorf("Basis(%d, w(%d)) = %x, %d", j, n, y, e)
		}
	}
}

func TestBasisOfNoIndex(t *testing.T) {
	for _, j := range wrongIndices() {
		for _, x := range places() {
			y, e := Basis(j, x)
			refusesWord(t, fmt.Sprintf("Basis(%d, %x)", j, x), y, e, api.ErrIndex)
		}
	}
}

// P13.5

func TestEvalExamples(t *testing.T) {
	for _, x := range places() {
		y, e := Eval(nil, x)
		wantsWord(t, "Eval(nil, x)", y, e, 0)
		y, e = Eval([]uint16{7}, x)
		wantsWord(t, "Eval([7], x)", y, e, 7)
		y, e = Eval([]uint16{0, 1}, x)
		wantsWord(t, "Eval([0, 1], x)", y, e, x)
	}
	y, e := Eval([]uint16{0, 1, 1}, 0xACCA)
	wantsWord(t, "Eval([0, 1, 1], b1)", y, e, 0xACCB)
	y, e = Eval([]uint16{0, 0, 0, 1}, 0xACCA)
	wantsWord(t, "Eval([0, 0, 0, 1], b1)", y, e, 0xACCA)
}

// evalLengths: all short ones, and those about powers of two.
func evalLengths() []int {
	var list []int
	for n := range 70 {
		list = append(list, n)
	}
	for i := 7; i <= 16; i++ {
		list = append(list, 1<<i-1, 1<<i, 1<<i+1)
	}
	return append(list[:len(list)-1], 100, 1000, 40000, 49152, 49153)
}

func TestEvalOfAllLengths(t *testing.T) {
	d := dice(4)
	for _, x := range []uint16{0, 1, 0x1234, long.w[65535], long.w[300], d.word()} {
		all := long.bases(65536, x)
		for _, n := range evalLengths() {
			list := d.words(n)
			y, e := Eval(list, x)
			wantsWord(t, fmt.Sprintf("Eval of %d words at %x", n, x), y, e, long.sum(list, all[:n]))
		}
	}
}

func TestEvalAtManyElements(t *testing.T) {
	d := dice(5)
	for range 3000 {
		x, list := d.word(), d.words(d.next(60))
		y, e := Eval(list, x)
		wantsWord(t, fmt.Sprintf("Eval(%s, %x)", few(list), x), y, e, long.sum(list, long.bases(len(list), x)))
	}
}

// One coefficient alone: its place is that of the basis.
func TestEvalOfOneCoefficient(t *testing.T) {
	d := dice(6)
	for j := range 300 {
		x, c := d.word(), d.word()
		want := long.mul(c, long.bases(j+1, x)[j])
		for _, n := range []int{j + 1, j + 2, 2*j + 1, 700} {
			y, e := Eval(unit(n, j, c), x)
			wantsWord(t, fmt.Sprintf("Eval of %x at place %d of %d, at %x", c, j, n, x), y, e, want)
		}
	}
}

func TestEvalOfTooMany(t *testing.T) {
	for _, n := range []int{65537, 65538, 70000, 131072, 1 << 20, 1<<20 + 1} {
		for _, list := range [][]uint16{make([]uint16, n), unit(n, 0, 7), unit(n, n-1, 7)} {
			y, e := Eval(list, 1)
			refusesWord(t, fmt.Sprintf("Eval of %d words", n), y, e, api.ErrSize)
		}
	}
	y, e := Eval(unit(65536, 0, 7), 0)
	wantsWord(t, "Eval of 65536 words", y, e, 7)
}
