package polys

import (
	"fmt"
	"math"
	"testing"

	"cullet/api"
)

// P4.4

func TestDivModExamples(t *testing.T) {
	divModExamples(t, book8())
	divModExamples(t, book16())
	book8().wantDivMod(t, []uint8{5}, []uint8{2}, []uint8{0x8C}, nil)
	book8().wantDivMod(t, []uint8{1, 0, 1, 0}, []uint8{0, 2, 0}, []uint8{0, 0x8E}, []uint8{1})
	book16().wantDivMod(t, []uint16{1, 0, 1, 0}, []uint16{0, 2, 0}, []uint16{0, 0x8016}, []uint16{1})
}

func divModExamples[E uint8 | uint16](t *testing.T, b book[E]) {
	b.wantDivMod(t, []E{1, 0, 1}, []E{1, 1}, []E{1, 1}, nil)
	b.wantDivMod(t, []E{5}, []E{1, 1}, nil, []E{5})
	b.wantDivMod(t, []E{5, 0, 0}, []E{1, 1}, nil, []E{5})
	b.wantDivMod(t, []E{5, 7}, []E{1}, []E{5, 7}, nil)
	b.wantDivMod(t, []E{0, 0, 0, 1}, []E{0, 0, 1, 0}, []E{0, 1}, nil)
	b.wantDivMod(t, []E{9, 8, 7}, []E{9, 8, 7}, []E{1}, nil)
	for _, zero := range zeros[E]() {
		b.wantDivMod(t, zero, []E{1}, nil, nil)
		b.wantDivMod(t, zero, []E{0, 3, 0}, nil, nil)
		b.wantDivMod(t, zero, full[E](new(dice), 1024), nil, nil)
	}
}

func TestDivModByLongDivision(t *testing.T) {
	divModThrown(t, book8())
	divModThrown(t, book16())
}

func divModThrown[E uint8 | uint16](t *testing.T, b book[E]) {
	d := dice(4)
	for range 600 {
		f, g := thrown[E](&d, d.below(14)), tailed(append(thrown[E](&d, d.below(8)), E(1+d.below(255))), d.below(3))
		q, m := b.divided(f, g)
		b.wantDivMod(t, f, g, q, m)
		b.wantDivMod(t, b.multiplied(f, g), g, shorn(f), nil)
	}
	for _, n := range []int{1, 2, 300, 1023, 1024} {
		f, g := full[E](&d, 1024), full[E](&d, n)
		q, m := b.divided(f, g)
		b.wantDivMod(t, f, g, q, m)
		b.wantDivMod(t, f, tailed(g, 1024-n), q, m)
	}
}

func (b book[E]) wantDivMod(t *testing.T, f, g, q, m []E) {
	t.Helper()
	gotQ, gotM, e := b.ring.DivMod(f, g)
	what := fmt.Sprintf("%s: DivMod(%x, %x)", b.name, short(f), short(g))
	if e != api.OK {
		t.Errorf("%s: error %d", what, e)
	}
	same(t, what+", quotient,", gotQ, q)
	same(t, what+", remainder,", gotM, m)
}

func TestDivModByZero(t *testing.T) {
	divModByZero(t, book8())
	divModByZero(t, book16())
}

func divModByZero[E uint8 | uint16](t *testing.T, b book[E]) {
	for _, zero := range zeros[E]() {
		for _, f := range [][]E{nil, {0}, {5}, {0, 1, 0}, make([]E, 1024), full[E](new(dice), 1024)} {
			if q, m, e := b.ring.DivMod(f, zero); len(q) != 0 || len(m) != 0 || e != api.ErrZeroPoly {
				t.Errorf("%s: DivMod(%x, %d zeros) = %x, %x, %d, want ErrZeroPoly", b.name, short(f), len(zero), q, m, e)
			}
		}
	}
}

// P4.5

func TestGcdExamples(t *testing.T) {
	gcdExamples(t, book8())
	gcdExamples(t, book16())
}

func gcdExamples[E uint8 | uint16](t *testing.T, b book[E]) {
	b.wantGcd(t, []E{2, 2}, []E{4, 0, 4}, []E{1, 1})
	b.wantGcd(t, []E{0, 0, 7}, []E{0, 3}, []E{0, 1})
	b.wantGcd(t, []E{1, 1}, []E{0, 1}, []E{1})
	b.wantGcd(t, []E{6, 6, 0, 0}, []E{6, 6}, []E{1, 1})
	b.wantGcd(t, []E{9}, []E{0, 0, 5}, []E{1})
	for _, zero := range zeros[E]() {
		for _, other := range zeros[E]() {
			b.wantGcd(t, zero, other, nil)
		}
		b.wantGcd(t, zero, []E{2}, []E{1})
		b.wantGcd(t, zero, []E{0, 6, 0}, []E{0, 1})
		b.wantGcd(t, zero, []E{3, 3}, []E{1, 1})
	}
}

func TestGcdOfKnownFactors(t *testing.T) {
	gcdKnown(t, book8())
	gcdKnown(t, book16())
}

// gcdKnown: products of X + x with the roots picked, so that what f and g share is known ahead.
func gcdKnown[E uint8 | uint16](t *testing.T, b book[E]) {
	d := dice(5)
	for range 150 {
		points := unlike[E](&d, 30)
		ours, theirs, shared := points[:d.below(6)], points[10:10+d.below(6)], points[20:20+d.below(6)]
		common := b.rooted(shared...)
		if d.below(2) == 0 {
			common = b.multiplied(common, common)
		}
		f := b.multiplied([]E{E(1 + d.below(255))}, b.multiplied(common, b.rooted(ours...)))
		g := b.multiplied([]E{E(1 + d.below(255))}, b.multiplied(common, b.rooted(theirs...)))
		b.wantGcd(t, f, g, common)
		b.wantGcd(t, f, b.multiplied(f, g), b.multiplied([]E{b.inverse(f[len(f)-1])}, f))
	}
}

func TestGcdByEuclid(t *testing.T) {
	gcdThrown(t, book8())
	gcdThrown(t, book16())
}

func gcdThrown[E uint8 | uint16](t *testing.T, b book[E]) {
	d := dice(6)
	for range 200 {
		f, g := thrown[E](&d, d.below(10)), thrown[E](&d, d.below(10))
		list := b.sequence(f, g)
		common := list[len(list)-2][0]
		if len(common) > 0 {
			common = b.multiplied([]E{b.inverse(common[len(common)-1])}, common)
		}
		b.wantGcd(t, f, g, common)
	}
	common := b.rooted(unlike[E](&d, 24)...)
	f, g := b.multiplied(common, full[E](&d, 1000)), b.multiplied(common, b.rooted(thrown[E](&d, 3)...))
	got, e := b.ring.Gcd(f, g)
	if _, rest := b.divided(got, common); e != api.OK || len(f) != 1024 || len(rest) != 0 || len(got) < 25 {
		t.Errorf("%s: Gcd of 1024 coefficients = %x, %d", b.name, got, e)
	}
	b.wantGcd(t, b.multiplied(common, full[E](&d, 1)), b.multiplied(common, full[E](&d, 1000)), common)
}

func (b book[E]) wantGcd(t *testing.T, f, g, want []E) {
	t.Helper()
	for _, pair := range [][2][]E{{f, g}, {g, f}} {
		got, e := b.ring.Gcd(pair[0], pair[1])
		what := fmt.Sprintf("%s: Gcd(%x, %x)", b.name, short(pair[0]), short(pair[1]))
		if e != api.OK {
			t.Errorf("%s: error %d", what, e)
		}
		same(t, what, got, want)
	}
}

// P4.10

func TestPartialExamples(t *testing.T) {
	partialExamples(t, book8())
	partialExamples(t, book16())
	book8().wantPartial(t, []uint8{2}, []uint8{0, 1}, 0, nil, []uint8{0, 0x8E}, []uint8{1})
	book16().wantPartial(t, []uint16{2}, []uint16{0, 1}, 0, nil, []uint16{0, 0x8016}, []uint16{1})
}

func partialExamples[E uint8 | uint16](t *testing.T, b book[E]) {
	one := []E{1}
	b.wantPartial(t, []E{0, 0, 1}, []E{1, 1}, 1, one, one, []E{1, 1})
	b.wantPartial(t, []E{5}, []E{0, 1}, 1, []E{5}, one, nil)
	b.wantPartial(t, []E{0, 0, 1}, []E{0, 1}, 0, nil, one, []E{0, 1})
	b.wantPartial(t, []E{0, 0, 1}, []E{0, 1}, 2, []E{0, 1}, nil, one)
	b.wantPartial(t, []E{0, 1}, []E{0, 0, 1}, 1, nil, []E{0, 1}, one)
	b.wantPartial(t, []E{0, 1}, []E{0, 0, 1}, 2, []E{0, 1}, one, nil)
}

func TestPartialWithZero(t *testing.T) {
	partialWithZero(t, book8())
	partialWithZero(t, book16())
}

func partialWithZero[E uint8 | uint16](t *testing.T, b book[E]) {
	one := []E{1}
	for _, zero := range zeros[E]() {
		for _, d := range []int{0, 1, 2, 3, 1024, math.MaxInt} {
			for _, other := range zeros[E]() {
				b.wantPartial(t, zero, other, d, nil, one, nil)
			}
			b.wantPartial(t, zero, []E{7}, d, nil, one, nil)
			b.wantPartial(t, zero, []E{0, 0, 7, 0}, d, nil, one, nil)
			b.wantPartial(t, zero, full[E](new(dice), 1024), d, nil, one, nil)
		}
		for d := range 3 {
			b.wantPartial(t, []E{0, 0, 7, 0}, zero, d, nil, nil, one)
		}
		for _, d := range []int{3, 4, 1024, math.MaxInt} {
			b.wantPartial(t, []E{0, 0, 7, 0}, zero, d, []E{0, 0, 7}, one, nil)
		}
		b.wantPartial(t, []E{7}, zero, 0, nil, nil, one)
		b.wantPartial(t, []E{7}, zero, 1, []E{7}, one, nil)
	}
}

func TestPartialAboveBothDegrees(t *testing.T) {
	partialAbove(t, book8())
	partialAbove(t, book16())
}

func partialAbove[E uint8 | uint16](t *testing.T, b book[E]) {
	r := dice(8)
	for _, n := range []int{1, 2, 9, 1024} {
		f, g := full[E](&r, n), full[E](&r, n)
		for _, d := range []int{n, n + 1, 1025, 1 << 40, math.MaxInt} {
			b.wantPartial(t, f, g, d, f, []E{1}, nil)
			b.wantPartial(t, tailed(f, 1024-n), g, d, f, []E{1}, nil)
		}
		b.wantPartial(t, f, g[:n-1], n-1, shorn(g[:n-1]), nil, []E{1})
	}
}

func TestPartialAtEveryDegree(t *testing.T) {
	partialThrown(t, book8())
	partialThrown(t, book16())
}

// partialThrown: the first list shorter than the second, longer, and as long; with steps of one degree and of many.
func partialThrown[E uint8 | uint16](t *testing.T, b book[E]) {
	r := dice(9)
	for range 150 {
		f, g := thrown[E](&r, r.below(12)), thrown[E](&r, r.below(12))
		if r.below(3) == 0 {
			common := thrown[E](&r, 3)
			f, g = b.multiplied(f, common), b.multiplied(g, common)
		}
		for d := range 16 {
			m, u, v := b.partial(f, g, d)
			b.wantPartial(t, f, g, d, m, u, v)
			b.wantPartial(t, tailed(f, 3), tailed(g, 1), d, m, u, v)
		}
	}
}

func (b book[E]) wantPartial(t *testing.T, f, g []E, d int, m, u, v []E) {
	t.Helper()
	gotM, gotU, gotV, e := b.ring.Partial(f, g, d)
	what := fmt.Sprintf("%s: Partial(%x, %x, %d)", b.name, short(f), short(g), d)
	if e != api.OK {
		t.Errorf("%s: error %d", what, e)
	}
	same(t, what+", m,", gotM, m)
	same(t, what+", u,", gotU, u)
	same(t, what+", v,", gotV, v)
}

func TestPartialOfGreatLists(t *testing.T) {
	partialGreat(t, book8())
	partialGreat(t, book16())
}

// partialGreat: m = u*f + v*g, below d; and u and v are no greater than Euclid's way makes them.
func partialGreat[E uint8 | uint16](t *testing.T, b book[E]) {
	r := dice(10)
	for _, c := range []struct{ f, g, d int }{{1024, 1024, 512}, {1024, 1024, 0}, {1024, 512, 100}, {300, 1024, 7}, {1024, 1, 0}, {1, 1024, 0}} {
		f, g := full[E](&r, c.f), full[E](&r, c.g)
		m, u, v, e := b.ring.Partial(f, g, c.d)
		if e != api.OK || len(m) > c.d {
			t.Errorf("%s: Partial of %d and %d, %d: error %d, %d coefficients", b.name, c.f, c.g, c.d, e, len(m))
		}
		same(t, fmt.Sprintf("%s: Partial of %d and %d, %d: m", b.name, c.f, c.g, c.d), m, added(b.multiplied(u, f), b.multiplied(v, g)))
		if len(u) > c.g || len(v) > c.f || len(u)+len(v) == 0 {
			t.Errorf("%s: Partial of %d and %d, %d: factors of %d and %d coefficients", b.name, c.f, c.g, c.d, len(u), len(v))
		}
	}
}
