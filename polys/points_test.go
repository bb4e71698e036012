package polys

import (
	"fmt"
	"slices"
	"testing"

	"cullet/api"
)

// P4.6

func TestEval(t *testing.T) {
	evalLists(t, book8())
	evalLists(t, book16())
}

func evalLists[E uint8 | uint16](t *testing.T, b book[E]) {
	for _, c := range []struct {
		f       []E
		x, want E
	}{
		{[]E{1, 2, 3}, 2, 9}, {[]E{7}, 0, 7}, {[]E{7, 9}, 0, 7}, {[]E{0, 9, 4}, 0, 0}, {[]E{0, 1}, 5, 5}, {[]E{1, 2, 4, 0, 0}, 1, 7},
		{[]E{7}, 200, 7}, {[]E{0, 0, 1, 0}, 3, 5},
	} {
		b.wantEval(t, c.f, c.x, c.want)
	}
	for _, zero := range zeros[E]() {
		for _, x := range []E{0, 1, 2, 255} {
			b.wantEval(t, zero, x, 0)
		}
	}
	d := dice(11)
	for range 500 {
		f, x := thrown[E](&d, d.below(20)), E(d.next())
		b.wantEval(t, f, x, b.value(f, x))
		b.wantEval(t, tailed(f, 5), x, b.value(f, x))
	}
	for _, n := range []int{1024, 1025, 70000} {
		f := full[E](&d, n)
		for _, x := range []E{0, 1, 2, E(d.next())} {
			b.wantEval(t, f, x, b.value(f, x))
		}
	}
}

func (b book[E]) wantEval(t *testing.T, f []E, x, want E) {
	t.Helper()
	if got := b.ring.Eval(f, x); got != want {
		t.Errorf("%s: Eval(%x, %x) = %x, want %x", b.name, short(f), x, got, want)
	}
}

func TestEvalAtEveryElement(t *testing.T) {
	b, w := book8(), book16()
	f, g := []uint8{0x53, 0, 0xCA, 1, 0x80}, []uint16{0x1234, 0, 0xABCD, 0x8000}
	for x := range 65536 {
		b.wantEval(t, f, uint8(x), b.value(f, uint8(x)))
		w.wantEval(t, g, uint16(x), w.value(g, uint16(x)))
	}
}

// P4.8

func TestVanishing(t *testing.T) {
	vanishing(t, book8())
	vanishing(t, book16())
}

func vanishing[E uint8 | uint16](t *testing.T, b book[E]) {
	for _, c := range []struct{ points, want []E }{
		{[]E{1, 2}, []E{2, 3, 1}}, {nil, []E{1}}, {[]E{}, []E{1}}, {[]E{0}, []E{0, 1}}, {[]E{1, 1}, []E{1, 0, 1}}, {[]E{0, 0, 0}, []E{0, 0, 0, 1}},
		{[]E{0, 1, 0}, []E{0, 0, 1, 1}}, {[]E{3, 3}, []E{5, 0, 1}}, {[]E{9}, []E{9, 1}},
	} {
		b.wantVanishing(t, c.points, c.want)
	}
	d := dice(12)
	for range 200 {
		points := thrown[E](&d, d.below(12))
		points = append(points, points[:len(points)/2]...)
		want := b.rooted(points...)
		b.wantVanishing(t, points, want)
		slices.Reverse(points)
		b.wantVanishing(t, points, want)
	}
	for _, n := range []int{300, 1024} {
		points := thrown[E](&d, n)
		b.wantVanishing(t, points, b.rooted(points...))
	}
	all := make([]E, 1025)
	all[1024] = 1
	b.wantVanishing(t, make([]E, 1024), all)
}

func (b book[E]) wantVanishing(t *testing.T, points, want []E) {
	t.Helper()
	got, e := b.ring.Vanishing(points)
	what := fmt.Sprintf("%s: Vanishing(%x)", b.name, short(points))
	if e != api.OK {
		t.Errorf("%s: error %d", what, e)
	}
	same(t, what, got, want)
}

// P4.9

func TestInterpolateExamples(t *testing.T) {
	interpolateExamples(t, book8())
	interpolateExamples(t, book16())
}

func interpolateExamples[E uint8 | uint16](t *testing.T, b book[E]) {
	for _, c := range []struct{ points, values, want []E }{
		{[]E{0, 1}, []E{5, 5}, []E{5}}, {[]E{0, 1}, []E{5, 7}, []E{5, 2}}, {nil, nil, nil}, {[]E{}, nil, nil}, {[]E{9}, []E{0}, nil}, {[]E{9}, []E{4}, []E{4}},
		{[]E{0}, []E{6}, []E{6}}, {[]E{0, 1, 2}, []E{1, 1, 1}, []E{1}}, {[]E{1, 2, 3, 0}, []E{1, 2, 3, 0}, []E{0, 1}}, {[]E{4, 5, 6}, []E{0, 0, 0}, nil},
	} {
		b.wantInterpolate(t, c.points, c.values, c.want)
	}
}

func TestInterpolateGivesThePolynomialBack(t *testing.T) {
	interpolateThrown(t, book8(), 256)
	interpolateThrown(t, book16(), 1024)
}

func interpolateThrown[E uint8 | uint16](t *testing.T, b book[E], most int) {
	d := dice(13)
	back := func(points, f []E) {
		t.Helper()
		values := make([]E, len(points))
		for i, x := range points {
			values[i] = b.value(f, x)
		}
		b.wantInterpolate(t, points, values, shorn(f))
	}
	for range 300 {
		n := d.below(20)
		points := unlike[E](&d, n)
		back(points, thrown[E](&d, n))
		back(points, thrown[E](&d, n/2))
		values := thrown[E](&d, n)
		got, e := b.ring.Interpolate(points, values)
		if e != api.OK || len(got) > n || len(got) != len(shorn(got)) {
			t.Errorf("%s: Interpolate(%x, %x) = %x, %d", b.name, points, values, got, e)
		}
		for i, x := range points {
			if y := b.value(got, x); y != values[i] {
				t.Errorf("%s: Interpolate(%x, %x) = %x, which is %x at %x", b.name, points, values, got, y, x)
			}
		}
	}
	points := make([]E, most)
	for i := range points {
		points[i] = E(i * 61)
	}
	back(points, full[E](&d, most))
	back(points, full[E](&d, 3))
}

func (b book[E]) wantInterpolate(t *testing.T, points, values, want []E) {
	t.Helper()
	got, e := b.ring.Interpolate(points, values)
	what := fmt.Sprintf("%s: Interpolate(%x, %x)", b.name, short(points), short(values))
	if e != api.OK {
		t.Errorf("%s: error %d", what, e)
	}
	same(t, what, got, want)
}

func TestInterpolateWrong(t *testing.T) {
	interpolateWrong(t, book8())
	interpolateWrong(t, book16())
}

func interpolateWrong[E uint8 | uint16](t *testing.T, b book[E]) {
	d := dice(14)
	points := unlike[E](&d, 200)
	early, late, apart := slices.Clone(points), slices.Clone(points), slices.Clone(points)
	early[1], late[198], apart[199] = early[0], late[199], apart[0]
	for _, c := range []struct {
		points, values []E
		want           api.Errno
	}{
		{[]E{1, 1}, []E{5, 5}, api.ErrTwice}, {[]E{1, 1}, []E{5, 6}, api.ErrTwice}, {[]E{0, 0}, []E{0, 0}, api.ErrTwice}, {[]E{0, 7, 0}, []E{1, 2, 3}, api.ErrTwice},
		{make([]E, 1024), make([]E, 1024), api.ErrTwice}, {early, points, api.ErrTwice}, {late, points, api.ErrTwice}, {apart, points, api.ErrTwice},
		{[]E{1}, []E{}, api.ErrLens}, {nil, []E{1}, api.ErrLens}, {[]E{1, 2}, []E{1}, api.ErrLens}, {[]E{1}, []E{1, 0}, api.ErrLens}, {[]E{1, 1}, []E{1}, api.ErrLens},
		{make([]E, 1024), make([]E, 1023), api.ErrLens}, {make([]E, 1023), make([]E, 1024), api.ErrLens},
	} {
		if f, e := b.ring.Interpolate(c.points, c.values); e != c.want || len(f) != 0 {
			t.Errorf("%s: Interpolate(%x, %x) = %x, %d, want %d", b.name, short(c.points), short(c.values), f, e, c.want)
		}
	}
}

func TestInterpolateMoreThanAllBytes(t *testing.T) {
	points := make([]uint8, 257)
	for i := range points {
		points[i] = uint8(i)
	}
	if f, e := Over8().Interpolate(points, points); e != api.ErrTwice || len(f) != 0 {
		t.Errorf("Interpolate at 257 bytes = %x, %d, want ErrTwice", short(f), e)
	}
}
