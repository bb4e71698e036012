package gf16

import (
	"math"
	"testing"

	"cullet/api"
)

// P3.1

func TestMulExamples(t *testing.T) {
	for _, c := range [][3]uint16{
		{0x8000, 2, 0x002D}, {2, 0x8000, 0x002D}, {0x1234, 0xABCD, 0x2537}, {0xABCD, 0x1234, 0x2537},
		{0, 77, 0}, {77, 0, 0}, {0, 0, 0}, {0, 0xFFFF, 0}, {1, 0xFFFF, 0xFFFF}, {0x8000, 1, 0x8000},
		{2, 0x8016, 1}, {0xACCA, 0xACCB, 1}, {0xACCA, 0xACCA, 0xACCB}, {3, 3, 5}, {256, 256, 0x002D},
	} {
		if p := Mul(c[0], c[1]); p != c[2] {
			t.Errorf("Mul(%#x, %#x) = %#x, want %#x", c[0], c[1], p, c[2])
		}
	}
}

func TestMulIsTheRemainderOfTheProduct(t *testing.T) {
	for _, a := range edges() {
		for _, b := range everyElement() {
			want := product(a, b)
			if p := Mul(a, b); p != want {
				t.Errorf("Mul(%#x, %#x) = %#x, want %#x", a, b, p, want)
			}
			if p := Mul(b, a); p != want {
				t.Errorf("Mul(%#x, %#x) = %#x, want %#x", b, a, p, want)
			}
		}
	}
}

func TestMulOfEveryPairOfBits(t *testing.T) {
	for i := range 16 {
		for j := range 16 {
			a, b := uint16(1)<<i, uint16(1)<<j
			if p := Mul(a, b); p != product(a, b) {
				t.Errorf("Mul(%#x, %#x) = %#x, want %#x", a, b, p, product(a, b))
			}
		}
	}
}

// P3.2

func TestInvExamples(t *testing.T) {
	for _, c := range [][2]uint16{{1, 1}, {2, 0x8016}, {0x8016, 2}, {0x1234, 0x1E79}, {0x1E79, 0x1234}, {0xACCA, 0xACCB}} {
		if inv, e := Inv(c[0]); inv != c[1] || e != api.OK {
			t.Errorf("Inv(%#x) = %#x, %d, want %#x", c[0], inv, e, c[1])
		}
	}
}

func TestInvOfEveryElement(t *testing.T) {
	for _, a := range everyElement()[1:] {
		inv, e := Inv(a)
		if product(a, inv) != 1 || e != api.OK {
			t.Errorf("Inv(%#x) = %#x, %d, and their product is %#x", a, inv, e, product(a, inv))
		}
	}
}

func TestInvOfZero(t *testing.T) {
	if inv, e := Inv(0); inv != 0 || e != api.ErrZero {
		t.Errorf("Inv(0) = %#x, %d, want 0, ErrZero", inv, e)
	}
}

func TestDivExamples(t *testing.T) {
	for _, c := range [][3]uint16{
		{0x002D, 2, 0x8000}, {0x002D, 0x8000, 2}, {0x2537, 0x1234, 0xABCD}, {0x2537, 0xABCD, 0x1234},
		{0, 9, 0}, {0, 0xFFFF, 0}, {0xFFFF, 0xFFFF, 1}, {0xFFFF, 1, 0xFFFF}, {1, 2, 0x8016}, {1, 0x1234, 0x1E79},
	} {
		if q, e := Div(c[0], c[1]); q != c[2] || e != api.OK {
			t.Errorf("Div(%#x, %#x) = %#x, %d, want %#x", c[0], c[1], q, e, c[2])
		}
	}
}

func TestDivGivesTheFactorBack(t *testing.T) {
	for _, a := range edges() {
		for b := 1; b < 65536; b++ {
			if q, e := Div(a, uint16(b)); product(q, uint16(b)) != a || e != api.OK {
				t.Errorf("Div(%#x, %#x) = %#x, %d, and the product is %#x", a, b, q, e, product(q, uint16(b)))
			}
		}
	}
	for _, b := range edges()[1:] {
		for _, a := range everyElement() {
			if q, e := Div(a, b); product(q, b) != a || e != api.OK {
				t.Errorf("Div(%#x, %#x) = %#x, %d, and the product is %#x", a, b, q, e, product(q, b))
			}
		}
	}
}

func TestDivByZero(t *testing.T) {
	for _, a := range everyElement() {
		if q, e := Div(a, 0); q != 0 || e != api.ErrZero {
			t.Errorf("Div(%#x, 0) = %#x, %d, want 0, ErrZero", a, q, e)
		}
	}
}

// P3.3

func TestPowExamples(t *testing.T) {
	for _, c := range []struct {
		a    uint16
		n    int
		want uint16
	}{
		{2, 16, 0x002D}, {2, -1, 0x8016}, {0, 0, 1}, {0, 5, 0},
		{2, 0, 1}, {2, 1, 2}, {2, 15, 0x8000}, {2, 65534, 0x8016}, {2, 65535, 1}, {2, 65536, 2}, {2, -65535, 1}, {2, -65534, 2},
		{7, 0, 1}, {3, 2, 5}, {0x1234, -1, 0x1E79}, {0x1234, 65534, 0x1E79}, {0xFFFF, 1, 0xFFFF}, {1, -7, 1},
		{0xACCA, 3, 1}, {0xACCA, 2, 0xACCB}, {0xACCA, math.MinInt, 0xACCA},
	} {
		if p, e := Pow(c.a, c.n); p != c.want || e != api.OK {
			t.Errorf("Pow(%#x, %d) = %#x, %d, want %#x", c.a, c.n, p, e, c.want)
		}
	}
}

func TestPowAtTheEdges(t *testing.T) {
	for _, a := range edges()[1:] {
		powers := powersOf(a)
		for _, c := range edgeExponents() {
			if p, e := Pow(a, c.n); p != powers[c.r] || e != api.OK {
				t.Errorf("Pow(%#x, %d) = %#x, %d, want %#x", a, c.n, p, e, powers[c.r])
			}
		}
	}
}

func TestPowAtEveryExponent(t *testing.T) {
	const a = 0x1234
	powers := powersOf(a)
	for _, c := range nearExponents() {
		if p, e := Pow(a, c.n); p != powers[c.r] || e != api.OK {
			t.Errorf("Pow(%#x, %d) = %#x, %d, want %#x", a, c.n, p, e, powers[c.r])
		}
	}
}

func TestPowOfEveryElement(t *testing.T) {
	inverse := inverses()
	for _, a := range everyElement()[1:] {
		cube := product(a, product(a, a))
		for _, c := range []struct {
			n    int
			want uint16
		}{{-3, inverse[cube]}, {-1, inverse[a]}, {0, 1}, {1, a}, {3, cube}, {65534, inverse[a]}, {65535, 1}, {65538, cube}} {
			if p, e := Pow(a, c.n); p != c.want || e != api.OK {
				t.Errorf("Pow(%#x, %d) = %#x, %d, want %#x", a, c.n, p, e, c.want)
			}
		}
	}
}

func TestPowOfZero(t *testing.T) {
	if p, e := Pow(0, 0); p != 1 || e != api.OK {
		t.Errorf("Pow(0, 0) = %d, %d, want 1", p, e)
	}
	for _, n := range []int{1, 2, 5, 65534, 65535, 65536, 131070, 131071, math.MaxInt, math.MaxInt - 32767} {
		if p, e := Pow(0, n); p != 0 || e != api.OK {
			t.Errorf("Pow(0, %d) = %d, %d, want 0", n, p, e)
		}
	}
	for _, n := range []int{-1, -2, -5, -65534, -65535, -65536, -131070, math.MinInt, math.MinInt + 32768} {
		if p, e := Pow(0, n); p != 0 || e != api.ErrZero {
			t.Errorf("Pow(0, %d) = %d, %d, want 0, ErrZero", n, p, e)
		}
	}
}

// P3.4

func TestTraceExamples(t *testing.T) {
	for _, c := range []struct {
		a    uint16
		want int
	}{{0x0800, 1}, {0x2000, 1}, {2, 0}, {1, 0}, {0x991E, 1}, {0, 0}, {0xACCA, 0}, {0xFF38, 0}} {
		if trace := Trace(c.a); trace != c.want {
			t.Errorf("Trace(%#x) = %d, want %d", c.a, trace, c.want)
		}
	}
}

func TestTraceOfEveryElement(t *testing.T) {
	ones := 0
	for _, a := range everyElement() {
		sum, square := uint16(0), a
		for range 16 {
			sum ^= square
			square = product(square, square)
		}
		trace := Trace(a)
		if trace != int(sum) {
			t.Errorf("Trace(%#x) = %d, want %d", a, trace, sum)
		}
		ones += trace
	}
	if ones != 32768 {
		t.Errorf("%d elements have the trace 1, want half of all", ones)
	}
}

// P3.8

func TestCallsKeepNothing(t *testing.T) {
	root := roots()
	basis := cantor(t)
	for range 2 {
		for _, a := range edges() {
			for _, b := range edges() {
				_, inverted := Inv(a)
				_, divided := Div(b, a)
				_, raised := Pow(a, -1)
				if wrong := a == 0; (inverted == api.ErrZero) != wrong || (divided == api.ErrZero) != wrong || (raised == api.ErrZero) != wrong {
					t.Errorf("the errors of %#x: %d, %d, %d", a, inverted, divided, raised)
				}
				if p := Mul(a, b); p != product(a, b) {
					t.Errorf("Mul(%#x, %#x) = %#x behind other calls, want %#x", a, b, p, product(a, b))
				}
			}
			if _, e := Root(a); (e == api.ErrNoRoot) != (root[a] < 0) {
				t.Errorf("the error of Root(%#x) is %d", a, e)
			}
			if w, e := Element(int(a)); w != sumOf(basis, int(a)) || e != api.OK {
				t.Errorf("Element(%d) = %#x, %d behind other calls, want %#x", a, w, e, sumOf(basis, int(a)))
			}
			if _, e := Element(-1 - int(a)); e != api.ErrIndex {
				t.Errorf("the error of Element(%d) is %d, want ErrIndex", -1-int(a), e)
			}
		}
	}
}
