package gf8

import (
	"math"
	"testing"

	"cullet/api"
)

// P2.1

func TestMulExamples(t *testing.T) {
	for _, c := range [][3]byte{
		{2, 128, 29}, {128, 2, 29}, {3, 7, 9}, {0, 77, 0}, {77, 0, 0}, {0, 0, 0},
		{1, 255, 255}, {255, 1, 255}, {128, 128, 19}, {255, 255, 226}, {2, 142, 1},
	} {
		if p := Mul(c[0], c[1]); p != c[2] {
			t.Errorf("Mul(%d, %d) = %d, want %d", c[0], c[1], p, c[2])
		}
	}
}

func TestMulIsTheRemainderOfTheProduct(t *testing.T) {
	for _, a := range everyElement() {
		for _, b := range everyElement() {
			if p, want := Mul(a, b), product(a, b); p != want {
				t.Errorf("Mul(%d, %d) = %d, want %d", a, b, p, want)
			}
		}
	}
}

// P2.2

func TestInvExamples(t *testing.T) {
	for _, c := range [][2]byte{{1, 1}, {2, 142}, {142, 2}, {128, 27}, {255, 253}} {
		if inv, e := Inv(c[0]); inv != c[1] || e != api.OK {
			t.Errorf("Inv(%d) = %d, %d, want %d", c[0], inv, e, c[1])
		}
	}
}

func TestInvOfEveryElement(t *testing.T) {
	for _, a := range everyElement()[1:] {
		inv, e := Inv(a)
		if inv != inverse(a) || e != api.OK {
			t.Errorf("Inv(%d) = %d, %d, want %d", a, inv, e, inverse(a))
		}
	}
}

func TestInvOfZero(t *testing.T) {
	if inv, e := Inv(0); inv != 0 || e != api.ErrZero {
		t.Errorf("Inv(0) = %d, %d, want 0, ErrZero", inv, e)
	}
}

func TestDivExamples(t *testing.T) {
	for _, c := range [][3]byte{{29, 2, 128}, {0, 9, 0}, {9, 7, 3}, {255, 255, 1}, {255, 1, 255}, {1, 2, 142}, {1, 128, 27}} {
		if q, e := Div(c[0], c[1]); q != c[2] || e != api.OK {
			t.Errorf("Div(%d, %d) = %d, %d, want %d", c[0], c[1], q, e, c[2])
		}
	}
}

func TestDivIsTheProductByTheInverse(t *testing.T) {
	for _, b := range everyElement()[1:] {
		factor := inverse(b)
		for _, a := range everyElement() {
			if q, e := Div(a, b); q != product(a, factor) || e != api.OK {
				t.Errorf("Div(%d, %d) = %d, %d, want %d", a, b, q, e, product(a, factor))
			}
		}
	}
}

func TestDivByZero(t *testing.T) {
	for _, a := range everyElement() {
		if q, e := Div(a, 0); q != 0 || e != api.ErrZero {
			t.Errorf("Div(%d, 0) = %d, %d, want 0, ErrZero", a, q, e)
		}
	}
}

// P2.3

func TestPowExamples(t *testing.T) {
	for _, c := range []struct {
		a    byte
		n    int
		want byte
	}{
		{2, 8, 29}, {2, 255, 1}, {2, -1, 142}, {0, 0, 1}, {0, 5, 0},
		{2, 254, 142}, {2, 256, 2}, {2, 0, 1}, {3, 2, 5}, {3, -1, 244}, {128, 1, 128}, {255, -1, 253}, {1, -7, 1},
	} {
		if p, e := Pow(c.a, c.n); p != c.want || e != api.OK {
			t.Errorf("Pow(%d, %d) = %d, %d, want %d", c.a, c.n, p, e, c.want)
		}
	}
}

func TestPowAtEveryExponent(t *testing.T) {
	for _, a := range everyElement()[1:] {
		var want [255]byte
		for r := range want {
			want[r] = power(a, r)
		}
		for _, c := range exponents() {
			if p, e := Pow(a, c.n); p != want[c.r] || e != api.OK {
				t.Errorf("Pow(%d, %d) = %d, %d, want %d", a, c.n, p, e, want[c.r])
			}
		}
	}
}

func TestPowOfZero(t *testing.T) {
	if p, e := Pow(0, 0); p != 1 || e != api.OK {
		t.Errorf("Pow(0, 0) = %d, %d, want 1", p, e)
	}
	for _, n := range []int{1, 2, 254, 255, 256, 510, 511, math.MaxInt, math.MaxInt - 127} {
		if p, e := Pow(0, n); p != 0 || e != api.OK {
			t.Errorf("Pow(0, %d) = %d, %d, want 0", n, p, e)
		}
	}
	for _, n := range []int{-1, -2, -5, -254, -255, -256, -510, math.MinInt, math.MinInt + 128} {
		if p, e := Pow(0, n); p != 0 || e != api.ErrZero {
			t.Errorf("Pow(0, %d) = %d, %d, want 0, ErrZero", n, p, e)
		}
	}
}

// P2.6

func TestCallsKeepNothing(t *testing.T) {
	for range 2 {
		for _, a := range []byte{0, 1, 2, 128, 255} {
			for _, b := range []byte{0, 1, 2, 128, 255} {
				_, inverted := Inv(a)
				_, divided := Div(b, a)
				_, raised := Pow(a, -1)
				if wrong := a == 0; (inverted == api.ErrZero) != wrong || (divided == api.ErrZero) != wrong || (raised == api.ErrZero) != wrong {
					t.Errorf("the errors of %d: %d, %d, %d", a, inverted, divided, raised)
				}
				if p := Mul(a, b); p != product(a, b) {
					t.Errorf("Mul(%d, %d) = %d behind other calls, want %d", a, b, p, product(a, b))
				}
			}
		}
	}
}
