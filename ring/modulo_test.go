package ring

import (
	"testing"

	"cullet/api"
)

// moduli: of every degree from 1 to greatest; their polynomials of all kinds, irreducible ones of degrees 8, 16 and 32 among them.
func moduli(greatest int) []uint64 {
	list := []uint64{}
	for _, p := range append(polys(greatest), 0x11D, 0x1002D, 0x10000008D, 0x104C11DB7) {
		if p > 1 && p>>greatest <= 1 {
			list = append(list, p)
		}
	}
	return list
}

// anyNumbers: what stands for "any number" beside a modulus.
func anyNumbers() []uint64 {
	return []uint64{0, 1, 2, 3, 0x8E, 0xFFFF, 1 << 31, 0xDEADBEEF, 1 << 32, 0x123456789ABCDEF1, 1 << 63, 1<<64 - 1}
}

// P1.6

func TestMulModExamples(t *testing.T) {
	for _, c := range [][4]uint64{
		{0x80, 2, 0x11D, 0x1D},
		{2, 0x8E, 0x11D, 1},
		{1 << 63, 1 << 63, 3, 1},
		{1 << 31, 2, 1 << 32, 0},
		{1 << 31, 2, 0x104C11DB7, 0x04C11DB7},
		{7, 7, 2, 1},
	} {
		if x, e := MulMod(c[0], c[1], c[2]); x != c[3] || e != api.OK {
			t.Errorf("MulMod(%#x, %#x, %#x) = %#x, %d, want %#x", c[0], c[1], c[2], x, e, c[3])
		}
	}
}

func TestMulModIsTheRemainderOfTheWholeProduct(t *testing.T) {
	for _, p := range moduli(32) {
		for _, a := range anyNumbers() {
			for _, b := range anyNumbers() {
				want := productModulo(a, b, p)
				if x, e := MulMod(a, b, p); x != want || e != api.OK {
					t.Errorf("MulMod(%#x, %#x, %#x) = %#x, %d, want %#x", a, b, p, x, e, want)
				}
			}
		}
	}
}

func TestMulModOfNoModulus(t *testing.T) {
	for _, p := range wrongModuli(32) {
		for _, a := range anyNumbers() {
			if x, e := MulMod(a, 1, p); x != 0 || e != api.ErrModulus {
				t.Errorf("MulMod(%#x, 1, %#x) = %#x, %d, want ErrModulus", a, p, x, e)
			}
		}
	}
}

// P1.7

func TestPowModExamples(t *testing.T) {
	for _, c := range [][4]uint64{
		{0, 0, 2, 1},
		{0, 0, 0x11D, 1},
		{0, 1, 0x11D, 0},
		{0, 1<<64 - 1, 0x11D, 0},
		{2, 8, 0x11D, 0x1D},
		{2, 255, 0x11D, 1},
		{2, 65535, 0x1002D, 1},
		{2, 1<<32 - 1, 0x104C11DB7, 1},
		{2, 1<<64 - 1, 0x104C11DB7, 1},
		{2, 32, 1 << 32, 0},
	} {
		if x, e := PowMod(c[0], c[1], c[2]); x != c[3] || e != api.OK {
			t.Errorf("PowMod(%#x, %d, %#x) = %#x, %d, want %#x", c[0], c[1], c[2], x, e, c[3])
		}
	}
}

func TestPowModIsTheProductOfItsFactors(t *testing.T) {
	for _, p := range moduli(32) {
		for _, a := range anyNumbers() {
			want := uint64(1)
			for n := range uint64(9) {
				if x, e := PowMod(a, n, p); x != want || e != api.OK {
					t.Errorf("PowMod(%#x, %d, %#x) = %#x, %d, want %#x", a, n, p, x, e, want)
				}
				want = productModulo(want, a, p)
			}
		}
	}
}

func TestPowModOfGreatExponents(t *testing.T) {
	for _, p := range []uint64{2, 3, 0x11D, 0x1002C, 0x104C11DB7, 1<<33 - 1} {
		for _, a := range anyNumbers() {
			power := residue(a, 0, p) // a to the 2^i
			below := uint64(1)        // a to the 2^i - 1
			for i := range 64 {
				for _, c := range []struct{ n, want uint64 }{{1 << i, power}, {1<<i - 1, below}} {
					if x, e := PowMod(a, c.n, p); x != c.want || e != api.OK {
						t.Errorf("PowMod(%#x, %d, %#x) = %#x, %d, want %#x", a, c.n, p, x, e, c.want)
					}
				}
				below = productModulo(below, power, p)
				power = productModulo(power, power, p)
			}
		}
	}
}

func TestPowModOfNoModulus(t *testing.T) {
	for _, p := range wrongModuli(32) {
		for _, n := range anyNumbers() {
			if x, e := PowMod(2, n, p); x != 0 || e != api.ErrModulus {
				t.Errorf("PowMod(2, %d, %#x) = %#x, %d, want ErrModulus", n, p, x, e)
			}
		}
	}
}

// P1.8

func TestInvModExamples(t *testing.T) {
	for _, c := range []struct {
		a, p, want uint64
		e          api.Errno
	}{
		{2, 0x1002D, 0x8016, api.OK},
		{2, 0x11D, 0x8E, api.OK},
		{3, 2, 1, api.OK},
		{2, 3, 1, api.OK},
		{2, 6, 0, api.ErrNoInverse},
		{0, 7, 0, api.ErrNoInverse},
		{7, 7, 0, api.ErrNoInverse},
		{0, 2, 0, api.ErrNoInverse},
		{2, 1 << 32, 0, api.ErrNoInverse},
	} {
		if x, e := InvMod(c.a, c.p); x != c.want || e != c.e {
			t.Errorf("InvMod(%#x, %#x) = %#x, %d, want %#x, %d", c.a, c.p, x, e, c.want, c.e)
		}
	}
}

func TestInvModOfAllSmallModuli(t *testing.T) {
	for p := uint64(2); p < 64; p++ {
		for a := range uint64(128) {
			want, wantE := uint64(0), api.ErrNoInverse
			for b := range uint64(1) << Degree(p) {
				if productModulo(a, b, p) == 1 {
					want, wantE = b, api.OK
				}
			}
			if x, e := InvMod(a, p); x != want || e != wantE {
				t.Errorf("InvMod(%#x, %#x) = %#x, %d, want %#x, %d", a, p, x, e, want, wantE)
			}
		}
	}
}

func TestInvModOfGreatModuli(t *testing.T) {
	for _, p := range moduli(32) {
		for _, a := range append(anyNumbers(), polys(63)...) {
			x, e := InvMod(a, p)
			if Gcd(a, p) != 1 {
				if x != 0 || e != api.ErrNoInverse {
					t.Errorf("InvMod(%#x, %#x) = %#x, %d, want ErrNoInverse", a, p, x, e)
				}
			} else if e != api.OK || Degree(x) >= Degree(p) || productModulo(a, x, p) != 1 {
				t.Errorf("InvMod(%#x, %#x) = %#x, %d", a, p, x, e)
			}
		}
	}
}

func TestInvModOfNoModulus(t *testing.T) {
	for _, p := range wrongModuli(32) {
		for _, a := range append(anyNumbers(), p) { // of 0 and p both errors apply
			if x, e := InvMod(a, p); x != 0 || e != api.ErrModulus {
				t.Errorf("InvMod(%#x, %#x) = %#x, %d, want ErrModulus", a, p, x, e)
			}
		}
	}
}

// P1.9

func TestIrreducibleExamples(t *testing.T) {
	for p, want := range map[uint64]bool{
		7: true, 5: false, 2: true, 3: true, 4: false, 6: false, 0x1F: true, 0x15: false,
		0x11B: true, 0x11D: true, 0x1002D: true, 0x1100B: true, 1 << 16: false, 1 << 17: false, 1<<17 | 9: true,
		0x10000008D: true, 0x104C11DB7: true, 1 << 32: false, 1<<32 | 1: false, 1<<33 - 1: false,
	} {
		if ok, e := Irreducible(p); ok != want || e != api.OK {
			t.Errorf("Irreducible(%#x) = %v, %d, want %v", p, ok, e, want)
		}
	}
}

func TestIrreducibleOfAllSmallPolynomials(t *testing.T) {
	const limit = 1 << 11
	reducible := [limit]bool{}
	for a := uint64(2); a < limit; a++ {
		for b := uint64(2); b < limit && Degree(a)+Degree(b) <= 10; b++ {
			product, _ := wideProduct(a, b)
			reducible[product] = true
		}
	}
	for p := uint64(2); p < limit; p++ {
		if ok, e := Irreducible(p); ok == reducible[p] || e != api.OK {
			t.Errorf("Irreducible(%#x) = %v, %d", p, ok, e)
		}
	}
}

// TestIrreducibleOfProducts: the smaller factor, irreducible, has each degree that the smallest factor of a modulus can have.
func TestIrreducibleOfProducts(t *testing.T) {
	for _, a := range []uint64{2, 3, 7, 0xB, 0x13, 0x25, 0x43, 0x83, 0x11D, 0x211, 0x409, 0x805, 0x1053, 0x201B, 0x4443, 0x8003, 0x1002D} {
		if ok, e := Irreducible(a); !ok || e != api.OK {
			t.Errorf("Irreducible(%#x) = %v, %d, want true", a, ok, e)
		}
		for _, b := range polys(32 - Degree(a)) {
			p, _ := wideProduct(a, b)
			if Degree(b) < 1 {
				continue
			}
			if ok, e := Irreducible(p); ok || e != api.OK {
				t.Errorf("Irreducible(%#x) = %v, %d, want false: it is %#x by %#x", p, ok, e, a, b)
			}
		}
	}
}

func TestIrreducibleOfNoModulus(t *testing.T) {
	for _, p := range wrongModuli(32) {
		if ok, e := Irreducible(p); ok || e != api.ErrModulus {
			t.Errorf("Irreducible(%#x) = %v, %d, want ErrModulus", p, ok, e)
		}
	}
}

// P1.10

func TestOrderExamples(t *testing.T) {
	for _, c := range []struct {
		a, p uint64
		n    int
		e    api.Errno
	}{
		{2, 7, 3, api.OK},
		{2, 0x11D, 255, api.OK},
		{1, 7, 1, api.OK},
		{2, 5, 2, api.OK},
		{3, 5, 0, api.ErrNoInverse},
		{3, 2, 1, api.OK},
		{2, 3, 1, api.OK},
		{0, 2, 0, api.ErrNoInverse},
		{0, 0x1002D, 0, api.ErrNoInverse},
		{0x1002D, 0x1002D, 0, api.ErrNoInverse},
		{2, 0x1002D, 65535, api.OK},
		{0x8016, 0x1002D, 65535, api.OK},
		{3, 1 << 16, 16, api.OK},
		{2, 1 << 16, 0, api.ErrNoInverse},
		{2, 1<<16 | 1, 16, api.OK},
	} {
		if n, e := Order(c.a, c.p); n != c.n || e != c.e {
			t.Errorf("Order(%#x, %#x) = %d, %d, want %d, %d", c.a, c.p, n, e, c.n, c.e)
		}
	}
}

func TestOrderIsTheLeastExponent(t *testing.T) {
	list := anyNumbers()
	for a := range uint64(80) {
		list = append(list, a)
	}
	for p := uint64(2); p < 128; p++ {
		for _, a := range list {
			n, e := Order(a, p)
			if !gcdIsOne(a, p) {
				if n != 0 || e != api.ErrNoInverse {
					t.Errorf("Order(%#x, %#x) = %d, %d, want ErrNoInverse", a, p, n, e)
				}
				continue
			}
			want, power := 1, residue(a, 0, p)
			for power != 1 {
				want, power = want+1, productModulo(power, a, p)
			}
			if n != want || e != api.OK {
				t.Errorf("Order(%#x, %#x) = %d, %d, want %d", a, p, n, e, want)
			}
		}
	}
}

func TestOrderOfNoModulus(t *testing.T) {
	for _, p := range wrongModuli(16) {
		for _, a := range append(anyNumbers(), p) { // of 0 and p both errors apply
			if n, e := Order(a, p); n != 0 || e != api.ErrModulus {
				t.Errorf("Order(%#x, %#x) = %d, %d, want ErrModulus", a, p, n, e)
			}
		}
	}
}

// P1.11

func TestPrimitiveExamples(t *testing.T) {
	for p, want := range map[uint64]bool{
		0x1F: false, 2: false, 3: true, 7: true, 5: false, 4: false, 0x13: true, 0x11B: false,
		1 << 16: false, 1<<16 | 1: false, 0x1100B: true, 0x1002B: false,
	} {
		if ok, e := Primitive(p); ok != want || e != api.OK {
			t.Errorf("Primitive(%#x) = %v, %d, want %v", p, ok, e, want)
		}
	}
}

// TestPrimitiveOfAllSmallPolynomials: p is primitive where the powers of x are all residues but 0.
func TestPrimitiveOfAllSmallPolynomials(t *testing.T) {
	for p := uint64(2); p < 1<<9; p++ {
		seen := map[uint64]bool{}
		for power := residue(2, 0, p); power != 0 && !seen[power]; power = productModulo(power, 2, p) {
			seen[power] = true
		}
		want := len(seen) == 1<<Degree(p)-1
		if ok, e := Primitive(p); ok != want || e != api.OK {
			t.Errorf("Primitive(%#x) = %v, %d, want %v", p, ok, e, want)
		}
	}
}

func TestPrimitiveOfNoModulus(t *testing.T) {
	for _, p := range wrongModuli(16) {
		if ok, e := Primitive(p); ok || e != api.ErrModulus {
			t.Errorf("Primitive(%#x) = %v, %d, want ErrModulus", p, ok, e)
		}
	}
}

// P1.14

func TestModuliOfTheFields(t *testing.T) {
	if api.Poly8 != 0x11D || api.Poly16 != 0x1002D {
		t.Errorf("the fields' moduli are %#x and %#x, want 0x11d and 0x1002d", api.Poly8, api.Poly16)
	}
	for _, p := range []uint64{api.Poly8, api.Poly16} {
		if ok, e := Irreducible(p); !ok || e != api.OK {
			t.Errorf("Irreducible(%#x) = %v, %d, want true", p, ok, e)
		}
		if ok, e := Primitive(p); !ok || e != api.OK {
			t.Errorf("Primitive(%#x) = %v, %d, want true", p, ok, e)
		}
	}
}
