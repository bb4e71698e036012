package ring

import (
	"testing"

	"cullet/api"
)

// TestErrorNumbers: the section 'Errors' of the chapter.
func TestErrorNumbers(t *testing.T) {
	got := [5]api.Errno{api.OK, api.ErrZeroDiv, api.ErrModulus, api.ErrNoInverse, api.ErrText}
	if want := [5]api.Errno{0, 10, 11, 12, 13}; got != want {
		t.Errorf("the errors are %v, want %v", got, want)
	}
}

// P1.1

func TestDegreeExamples(t *testing.T) {
	for a, want := range map[uint64]int{0: -1, 1: 0, 2: 1, 3: 1, 0x11D: 8, 0x1002D: 16, 1 << 63: 63, 1<<64 - 1: 63} {
		if d := Degree(a); d != want {
			t.Errorf("Degree(%#x) = %d, want %d", a, d, want)
		}
	}
}

func TestDegreeIsTheGreatestBit(t *testing.T) {
	for i := range 64 {
		least, greatest := uint64(1)<<i, uint64(1)<<i<<1-1
		for _, a := range []uint64{least, least | 1, least | least>>1, greatest} {
			if d := Degree(a); d != i {
				t.Errorf("Degree(%#x) = %d, want %d", a, d, i)
			}
		}
	}
}

// P1.2

func TestMulExamples(t *testing.T) {
	for _, c := range []struct {
		a, b uint32
		want uint64
	}{
		{3, 3, 5},
		{1 << 31, 1 << 31, 1 << 62},
		{0, 0xffffffff, 0},
		{1, 0xffffffff, 0xffffffff},
		{0xffffffff, 0xffffffff, 0x5555555555555555}, // a square has the bits of its root at even places
	} {
		if p := Mul(c.a, c.b); p != c.want {
			t.Errorf("Mul(%#x, %#x) = %#x, want %#x", c.a, c.b, p, c.want)
		}
	}
}

func TestMulIsTheProductByDefinition(t *testing.T) {
	for _, a := range polys(31) {
		for _, b := range polys(31) {
			want, over := wideProduct(a, b)
			if p := Mul(uint32(a), uint32(b)); p != want || over != 0 {
				t.Errorf("Mul(%#x, %#x) = %#x, want %#x", a, b, p, want)
			}
		}
	}
}

// P1.3

func TestDivModExamples(t *testing.T) {
	for _, c := range []struct {
		a, b, q, r uint64
	}{
		{0x11D, 2, 0x8E, 1},
		{5, 3, 3, 0},
		{0, 1, 0, 0},
		{2, 5, 0, 2},
		{1<<64 - 1, 1, 1<<64 - 1, 0},
		{1<<63 | 1, 1 << 63, 1, 1},
		{1 << 62, 1 << 63, 0, 1 << 62},
	} {
		if q, r, e := DivMod(c.a, c.b); q != c.q || r != c.r || e != api.OK {
			t.Errorf("DivMod(%#x, %#x) = %#x, %#x, %d, want %#x, %#x", c.a, c.b, q, r, e, c.q, c.r)
		}
	}
}

func TestDivModByZero(t *testing.T) {
	for _, a := range polys(63) {
		if q, r, e := DivMod(a, 0); q != 0 || r != 0 || e != api.ErrZeroDiv {
			t.Errorf("DivMod(%#x, 0) = %#x, %#x, %d, want ErrZeroDiv", a, q, r, e)
		}
	}
}

func TestDivModGivesTheDividendBack(t *testing.T) {
	for _, a := range polys(63) {
		for _, b := range polys(63) {
			if b == 0 {
				continue
			}
			q, r, e := DivMod(a, b)
			back, over := wideProduct(q, b)
			if e != api.OK || over != 0 || back^r != a || Degree(r) >= Degree(b) {
				t.Errorf("DivMod(%#x, %#x) = %#x, %#x, %d", a, b, q, r, e)
			}
		}
	}
}

// P1.4

func TestGcdExamples(t *testing.T) {
	for _, c := range [][3]uint64{
		{6, 5, 3},
		{0, 0, 0},
		{1<<64 - 1, 0, 1<<64 - 1},
		{0, 1<<64 - 1, 1<<64 - 1},
		{1 << 63, 1 << 40, 1 << 40},
		{0x11D, 0x1002D, 1},
	} {
		if g := Gcd(c[0], c[1]); g != c[2] {
			t.Errorf("Gcd(%#x, %#x) = %#x, want %#x", c[0], c[1], g, c[2])
		}
	}
}

func TestGcdIsTheGreatestOfAllCommonDivisors(t *testing.T) {
	for a := range uint64(64) {
		for b := range uint64(64) {
			if a == 0 && b == 0 {
				continue
			}
			want := uint64(0) // of all common divisors just one has the greatest degree
			for d := range uint64(64) {
				if divides(d, a) && divides(d, b) && Degree(d) > Degree(want) {
					want = d
				}
			}
			if g := Gcd(a, b); g != want {
				t.Errorf("Gcd(%#x, %#x) = %#x, want %#x", a, b, g, want)
			}
		}
	}
}

func TestGcdOfGreatPolynomials(t *testing.T) {
	for _, c := range polys(30) {
		for _, a := range []uint64{0x11D, 0x1002D, 0x104C11DB7} { // irreducible, so that no two share a factor
			for _, b := range []uint64{1, 2, 3, 0x1F, 0x10000008D} {
				left, _ := wideProduct(a, c)
				right, _ := wideProduct(b, c)
				if g := Gcd(left, right); g != c {
					t.Errorf("Gcd(%#x, %#x) = %#x, want %#x", left, right, g, c)
				}
			}
		}
	}
}

// P1.5

func TestBezoutExamples(t *testing.T) {
	for _, c := range [][5]uint32{
		{2, 3, 1, 1, 1},
		{6, 5, 3, 1, 1},
		{0, 5, 5, 0, 1},
		{5, 0, 5, 1, 0},
		{5, 5, 5, 0, 1},
		{0, 0, 0, 0, 0},
		{1, 0, 1, 1, 0},
		{0, 1, 1, 0, 1},
		{1 << 31, 0, 1 << 31, 1, 0},
		{0xffffffff, 0xffffffff, 0xffffffff, 0, 1},
		{5, 3, 3, 0, 1},
		{3, 5, 3, 1, 0},
	} {
		if g, u, v := Bezout(c[0], c[1]); g != c[2] || u != c[3] || v != c[4] {
			t.Errorf("Bezout(%#x, %#x) = %#x, %#x, %#x, want %#x", c[0], c[1], g, u, v, c[2:])
		}
	}
}

// wantBezout tells whether g, u, v are what P1.5 asks for where b is not 0: u of a degree below that of b by g is the only such polynomial that makes the sum come out.
func wantBezout(a, b, g, u, v uint64) bool {
	quotient, _, _ := DivMod(b, g)
	left, _ := wideProduct(u, a)
	right, _ := wideProduct(v, b)
	return g == Gcd(a, b) && Degree(u) < Degree(quotient) && left^right == g
}

func TestBezoutOfAllSmallPolynomials(t *testing.T) {
	for a := range uint32(128) {
		for b := uint32(1); b < 128; b++ {
			g, u, v := Bezout(a, b)
			if !wantBezout(uint64(a), uint64(b), uint64(g), uint64(u), uint64(v)) {
				t.Errorf("Bezout(%#x, %#x) = %#x, %#x, %#x", a, b, g, u, v)
			}
		}
	}
}

func TestBezoutOfGreatPolynomials(t *testing.T) {
	for _, a := range polys(31) {
		for _, b := range polys(31) {
			if b == 0 {
				continue
			}
			g, u, v := Bezout(uint32(a), uint32(b))
			if !wantBezout(a, b, uint64(g), uint64(u), uint64(v)) {
				t.Errorf("Bezout(%#x, %#x) = %#x, %#x, %#x", a, b, g, u, v)
			}
		}
	}
}
