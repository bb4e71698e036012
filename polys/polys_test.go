package polys

import (
	"fmt"
	"slices"
	"testing"

	"cullet/api"
)

// P4.1

func TestTrimAndDegree(t *testing.T) {
	trimAndDegree(t, book8())
	trimAndDegree(t, book16())
}

func trimAndDegree[E uint8 | uint16](t *testing.T, b book[E]) {
	for _, c := range []struct {
		f, want []E
		degree  int
	}{
		{[]E{1, 0, 2, 0, 0}, []E{1, 0, 2}, 2}, {[]E{5}, []E{5}, 0}, {[]E{0, 5, 0}, []E{0, 5}, 1}, {[]E{0, 0}, []E{}, -1},
		{[]E{0, 7}, []E{0, 7}, 1}, {[]E{0, 0, 0, 1}, []E{0, 0, 0, 1}, 3}, {[]E{255, 255}, []E{255, 255}, 1},
	} {
		same(t, fmt.Sprintf("%s: Trim(%v)", b.name, c.f), b.ring.Trim(c.f), c.want)
		if n := b.ring.Degree(c.f); n != c.degree {
			t.Errorf("%s: Degree(%v) = %d, want %d", b.name, c.f, n, c.degree)
		}
	}
	for _, zero := range zeros[E]() {
		same(t, fmt.Sprintf("%s: Trim of %d zeros", b.name, len(zero)), b.ring.Trim(zero), nil)
		if n := b.ring.Degree(zero); n != -1 {
			t.Errorf("%s: Degree of %d zeros = %d, want -1", b.name, len(zero), n)
		}
	}
	d := dice(1)
	for _, n := range []int{1, 2, 7, 1023, 1024, 1025, 5000, 70000} {
		f := full[E](&d, n)
		for _, tail := range []int{0, 1, 30, 2000} {
			long := tailed(f, tail)
			same(t, fmt.Sprintf("%s: Trim of %d with %d zeros", b.name, n, tail), b.ring.Trim(long), f)
			if got := b.ring.Degree(long); got != n-1 {
				t.Errorf("%s: Degree of %d with %d zeros = %d", b.name, n, tail, got)
			}
		}
	}
}

// P4.2

func TestAdd(t *testing.T) {
	addLists(t, book8())
	addLists(t, book16())
}

func addLists[E uint8 | uint16](t *testing.T, b book[E]) {
	for _, c := range []struct{ f, g, want []E }{
		{[]E{1, 2}, []E{3, 2}, []E{2}}, {[]E{1}, []E{}, []E{1}}, {[]E{1, 0}, []E{1}, nil}, {[]E{1}, []E{0, 0, 4, 0}, []E{1, 0, 4}},
		{[]E{0, 0, 9}, []E{0, 0, 9}, nil}, {[]E{6, 0, 9}, []E{0, 0, 9, 0}, []E{6}}, {[]E{5, 0, 0}, nil, []E{5}},
	} {
		same(t, fmt.Sprintf("%s: Add(%v, %v)", b.name, c.f, c.g), b.ring.Add(c.f, c.g), c.want)
		same(t, fmt.Sprintf("%s: Add(%v, %v)", b.name, c.g, c.f), b.ring.Add(c.g, c.f), c.want)
	}
	for _, zero := range zeros[E]() {
		for _, other := range zeros[E]() {
			same(t, b.name+": Add of two zeros", b.ring.Add(zero, other), nil)
		}
		same(t, b.name+": Add(f, 0)", b.ring.Add([]E{3, 0, 7, 0}, zero), []E{3, 0, 7})
		same(t, b.name+": Add(0, g)", b.ring.Add(zero, []E{3, 0, 7, 0}), []E{3, 0, 7})
	}
	d := dice(2)
	for range 500 {
		f, g := thrown[E](&d, d.below(9)), thrown[E](&d, d.below(9))
		same(t, fmt.Sprintf("%s: Add(%v, %v)", b.name, f, g), b.ring.Add(f, g), added(f, g))
	}
	for _, n := range []int{1024, 1025, 3000} {
		f, g := full[E](&d, n), full[E](&d, 1025)
		same(t, fmt.Sprintf("%s: Add of %d and 1025", b.name, n), b.ring.Add(f, g), added(f, g))
		same(t, fmt.Sprintf("%s: Add of %d to itself", b.name, n), b.ring.Add(f, f), nil)
	}
}

// P4.7

func TestDerivative(t *testing.T) {
	derivatives(t, book8())
	derivatives(t, book16())
}

func derivatives[E uint8 | uint16](t *testing.T, b book[E]) {
	for _, c := range []struct{ f, want []E }{
		{[]E{7, 6, 5, 4}, []E{6, 0, 4}}, {[]E{7, 0, 5}, nil}, {[]E{7}, nil}, {[]E{7, 0, 0, 0, 0}, nil},
		{[]E{0, 1, 9, 0}, []E{1}}, {[]E{0, 1}, []E{1}}, {[]E{0, 0, 0, 3}, []E{0, 0, 3}}, {[]E{1, 2, 3, 4, 5, 6, 7}, []E{2, 0, 4, 0, 6}},
	} {
		same(t, fmt.Sprintf("%s: Derivative(%v)", b.name, c.f), b.ring.Derivative(c.f), c.want)
	}
	for _, zero := range zeros[E]() {
		same(t, b.name+": Derivative(0)", b.ring.Derivative(zero), nil)
	}
	d := dice(7)
	for n := range 60 {
		f := thrown[E](&d, n)
		same(t, fmt.Sprintf("%s: Derivative(%v)", b.name, f), b.ring.Derivative(f), slope(f))
	}
	for _, n := range []int{1023, 1024, 1025, 1026, 4000} {
		f := full[E](&d, n)
		same(t, fmt.Sprintf("%s: Derivative of %d", b.name, n), b.ring.Derivative(f), slope(f))
	}
}

// slope: n times f[n], that is f[n] added to itself n times, at X^(n-1).
func slope[E uint8 | uint16](f []E) []E {
	var list []E
	for n := 1; n < len(f); n++ {
		sum := E(0)
		for range n {
			sum ^= f[n]
		}
		list = append(list, sum)
	}
	return shorn(list)
}

// P4.3

func TestMul(t *testing.T) {
	mulLists(t, book8())
	mulLists(t, book16())
}

func mulLists[E uint8 | uint16](t *testing.T, b book[E]) {
	for _, c := range []struct{ f, g, want []E }{
		{[]E{1, 1}, []E{1, 1}, []E{1, 0, 1}}, {[]E{0, 0}, []E{5}, nil}, {[]E{3, 1}, []E{3}, []E{5, 3}}, {[]E{1}, []E{9, 0, 0}, []E{9}},
		{[]E{0, 0, 1}, []E{0, 7, 0, 6, 0}, []E{0, 0, 0, 7, 0, 6}}, {[]E{1, 2, 4}, []E{1}, []E{1, 2, 4}},
	} {
		b.wantMul(t, c.f, c.g, c.want)
		b.wantMul(t, c.g, c.f, c.want)
	}
	for _, zero := range zeros[E]() {
		for _, f := range [][]E{{1}, {0, 1}, {3, 0, 7, 0}, make([]E, 1024), nil} {
			b.wantMul(t, zero, f, nil)
			b.wantMul(t, f, zero, nil)
		}
	}
	d := dice(3)
	for range 400 {
		f, g := thrown[E](&d, d.below(12)), thrown[E](&d, d.below(12))
		b.wantMul(t, f, g, b.multiplied(f, g))
		b.wantMul(t, f, f, b.multiplied(f, f))
	}
	for _, n := range []int{1, 2, 500, 1024} {
		f, g := full[E](&d, 1024), full[E](&d, n)
		b.wantMul(t, f, g, b.multiplied(f, g))
		b.wantMul(t, tailed(g, 1024-n), f, b.multiplied(f, g))
	}
}

func (b book[E]) wantMul(t *testing.T, f, g, want []E) {
	t.Helper()
	got, e := b.ring.Mul(f, g)
	if e != api.OK {
		t.Errorf("%s: Mul(%x, %x): error %d", b.name, short(f), short(g), e)
	}
	same(t, fmt.Sprintf("%s: Mul(%x, %x)", b.name, short(f), short(g)), got, want)
}

func TestMulExamplesOfTheFields(t *testing.T) {
	book8().wantMul(t, []uint8{0, 2}, []uint8{0x80, 0}, []uint8{0, 0x1D})
	book16().wantMul(t, []uint16{0x8000}, []uint16{2}, []uint16{0x2D})
	book16().wantMul(t, []uint16{0x80}, []uint16{2}, []uint16{0x100})
}

func TestMulOfEveryTwoBytes(t *testing.T) {
	b := book8()
	for x := range 256 {
		for y := range 256 {
			got, e := b.ring.Mul([]uint8{uint8(x)}, []uint8{uint8(y)})
			if want := shorn([]uint8{b.product(uint8(x), uint8(y))}); e != api.OK || !slices.Equal(got, want) {
				t.Errorf("Mul([%x], [%x]) = %x, %d, want %x", x, y, got, e, want)
			}
		}
	}
}

func TestMulOfEveryWord(t *testing.T) {
	b := book16()
	for _, x := range []uint16{1, 2, 3, 0x2D, 0x100, 0x8000, 0xACCA, 0xFFFF} {
		for y := range 65536 {
			got, e := b.ring.Mul([]uint16{uint16(y)}, []uint16{x})
			if want := shorn([]uint16{b.product(uint16(y), x)}); e != api.OK || !slices.Equal(got, want) {
				t.Errorf("Mul([%x], [%x]) = %x, %d, want %x", y, x, got, e, want)
			}
		}
	}
}

// P4.11

func TestMakersAnswerARingEachTime(t *testing.T) {
	makers(t, Over8, []uint8{0x80}, []uint8{2}, []uint8{0x1D})
	makers(t, Over16, []uint16{0x8000}, []uint16{2}, []uint16{0x2D})
}

func makers[E uint8 | uint16](t *testing.T, maker func() *Ring[E], f, g, want []E) {
	first, second := maker(), maker()
	if first == nil || second == nil {
		t.Fatal("a maker gives nil")
	}
	good := func(r *Ring[E], which string) {
		got, e := r.Mul(f, g)
		if e != api.OK {
			t.Errorf("Mul of the %s ring: error %d", which, e)
		}
		same(t, "Mul of the "+which+" ring", got, want)
		q, m, e := r.DivMod(want, g)
		if e != api.OK {
			t.Errorf("DivMod of the %s ring: error %d", which, e)
		}
		same(t, "quotient of the "+which+" ring", q, f)
		same(t, "remainder of the "+which+" ring", m, nil)
	}
	good(first, "first")
	good(second, "second")
	*first = Ring[E]{}
	good(second, "second, the first one wiped,")
	good(maker(), "third")
}
