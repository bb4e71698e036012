package mend

import (
	"bytes"
	"math"
	"slices"
	"testing"

	"cullet/api"
)

// P19.1

func TestRadius(t *testing.T) {
	const least, most = math.MinInt, math.MaxInt
	numbers := []int{least, least + 1, -1 << 32, -256, 1 << 32, 1<<32 + 5, most - 1, most}
	for i := -3; i <= 260; i++ {
		numbers = append(numbers, i)
	}
	for _, k := range numbers {
		for _, n := range numbers {
			want, wantError := 0, api.OK
			switch {
			case k < 1 || k > 256 || n > 256:
				wantError = api.ErrParams
			case n < k:
				wantError = api.ErrTooFew
			default:
				for 2*(want+1) <= n-k {
					want++
				}
			}
			if r, e := Radius(k, n); r != want || e != wantError {
				t.Fatalf("Radius(%d, %d) = %d, %d, want %d, %d", k, n, r, e, want, wantError)
			}
		}
	}
}

// P19.2

func TestSyndromesExamples(t *testing.T) {
	for _, c := range []struct {
		k      int
		points []int
		values []byte
		want   []byte
		e      api.Errno
	}{
		{1, []int{0, 1}, []byte{5, 5}, []byte{0}, api.OK},
		{1, []int{0, 1}, []byte{5, 7}, []byte{2}, api.OK},
		{2, []int{0, 1}, []byte{5, 7}, nil, api.OK},
		{1, []int{1, 0}, []byte{5}, nil, api.ErrRow},
		{1, []int{255}, []byte{9}, nil, api.OK},
		{1, []int{0, 1, 2}, []byte{1, 1, 1}, []byte{0, 0}, api.OK},
		{1, []int{0, 1, 2}, []byte{0, 1, 2}, []byte{1, 0}, api.OK},
		{2, []int{0, 1, 2}, []byte{0, 1, 4}, []byte{1}, api.OK},
	} {
		if s, e := Syndromes(c.k, c.points, c.values); !bytes.Equal(s, c.want) || e != c.e {
			t.Errorf("Syndromes(%d, %v, %x) = %x, %d, want %x, %d", c.k, c.points, c.values, s, e, c.want, c.e)
		}
	}
}

// A polynomial of n coefficients is picked, its values are handed in: its coefficients from x^k on must come back, zeros at the end too.
func TestSyndromesOfKnownPolynomials(t *testing.T) {
	d := dice(1)
	for n := 1; n <= 256; n += 1 + n/20 {
		for round := range 12 {
			points := d.some(n, 256)
			f := d.bytes(n)
			clear(f[d.next(n+1):])
			if round == 0 {
				clear(f)
			}
			for _, k := range []int{1, 1 + d.next(n), max(1, n-1), n} {
				s, e := Syndromes(k, points, values(f, points))
				if e != api.OK || !bytes.Equal(s, f[k:]) {
					t.Fatalf("Syndromes(%d, %v, values of %x) = %x, %d", k, points, f, s, e)
				}
			}
		}
	}
}

// P19.3

func TestColumnExamples(t *testing.T) {
	for _, c := range []struct {
		k      int
		points []int
		values []byte
		fixed  []byte
		wrong  []int
		e      api.Errno
	}{
		{1, []int{0, 1, 2}, []byte{5, 5, 9}, []byte{5, 5, 5}, []int{2}, api.OK},
		{1, []int{3, 1, 2}, []byte{5, 5, 9}, nil, nil, api.ErrRow},
		{1, []int{0, 1}, []byte{5, 7}, nil, nil, api.ErrBeyond},
		{2, []int{0, 1, 2, 3}, []byte{0, 1, 7, 3}, []byte{0, 1, 2, 3}, []int{2}, api.OK},
		{1, []int{5}, []byte{8}, []byte{8}, nil, api.OK},
		{3, []int{5, 9, 200}, []byte{8, 1, 255}, []byte{8, 1, 255}, nil, api.OK},
		{1, []int{0, 1, 2, 3}, []byte{5, 5, 9, 9}, nil, nil, api.ErrBeyond},
		{1, []int{0, 100, 254, 255}, []byte{5, 0, 0, 0}, []byte{0, 0, 0, 0}, []int{0}, api.OK},
	} {
		checkColumn(t, c.k, c.points, c.values, c.fixed, c.wrong, c.e)
	}
}

// checkColumn: Column answers these; what is handed in stays, and the answers share no memory with it.
func checkColumn(t *testing.T, k int, points []int, values, want []byte, wantWrong []int, wantError api.Errno) {
	t.Helper()
	about := stage([][]byte{values})
	wide := slices.Concat(points, []int{-7, 9})
	fixed, wrong, e := Column(k, wide[:len(points)], about.shards[0])
	if !bytes.Equal(fixed, want) || !slices.Equal(wrong, wantWrong) || e != wantError {
		t.Fatalf("Column(%d, %v, %x) = %x, %v, %d, want %x, %v, %d", k, points, values, fixed, wrong, e, want, wantWrong, wantError)
	}
	spoil(fixed[:cap(fixed)])
	for i := range wrong[:cap(wrong)] {
		wrong[:cap(wrong)][i] = -1
	}
	if !about.kept(nil, nil) || !slices.Equal(wide, slices.Concat(points, []int{-7, 9})) {
		t.Fatalf("Column(%d, %v, %x): what was handed in is changed, or shares memory with the answer", k, points, values)
	}
}

func spoil(list []byte) {
	for i := range list {
		list[i] ^= 0xA5
	}
}

// nearest: the values of the polynomial of a degree below k that is near, or nil, by trying all choices of k right values; the weights are Lagrange's.
func nearest(k int, points []int, all []guide, values []byte) []byte {
	return mended(all, values, firstOf(len(points)), (len(points)-k)/2)
}

// pointGuides: one for each choice of k of the points, by their places.
func pointGuides(k int, points []int) []guide {
	var list []guide
	for _, used := range choices(firstOf(len(points)), k) {
		var at []int
		for _, i := range used {
			at = append(at, points[i])
		}
		g := guide{used: used}
		for _, x := range points {
			var row []byte
			for i := range at {
				row = append(row, weight(at, i, x))
			}
			g.rows = append(g.rows, row)
		}
		list = append(list, g)
	}
	return list
}

// checkByTrying holds Column against the trial of all choices, and tells whether there was a near polynomial.
func checkByTrying(t *testing.T, k int, points []int, all []guide, values []byte) bool {
	t.Helper()
	want := nearest(k, points, all, values)
	if want == nil {
		checkColumn(t, k, points, values, nil, nil, api.ErrBeyond)
		return false
	}
	var wrong []int
	for _, i := range unlike(want, values, firstOf(len(points))) {
		wrong = append(wrong, points[i])
	}
	checkColumn(t, k, points, values, want, wrong, api.OK)
	return true
}

// All lists of values out of a few, at several point lists.
func TestColumnOfAllShortLists(t *testing.T) {
	few := []byte{0, 1, 2, 0x8E}
	for n := 1; n <= 6; n++ {
		apart := []int{1, 3, 64, 130, 200, 255}
		for _, points := range [][]int{firstOf(n), firstOf(256)[256-n:], apart[:n]} {
			for k := 1; k <= n; k++ {
				all := pointGuides(k, points)
				found := 0
				countLists(n, len(few), func(list []int) {
					var values []byte
					for _, i := range list {
						values = append(values, few[i])
					}
					if checkByTrying(t, k, points, all, values) {
						found++
					}
				})
				if found == 0 {
					t.Errorf("%d of %v: nothing was near", k, points)
				}
			}
		}
	}
}

// Values of a polynomial with any number of them wrong.
func TestColumnByTrying(t *testing.T) {
	d := dice(2)
	beyond, strange := 0, 0
	for n := 1; n <= 10; n++ {
		for k := 1; k <= n; k++ {
			for range 3 {
				points := d.some(n, 256)
				all := pointGuides(k, points)
				for count := range n + 1 {
					right := values(d.polynomial(k), points)
					bad := bytes.Clone(right)
					for _, i := range d.some(count, n) {
						bad[i] = d.other(bad[i])
					}
					found := checkByTrying(t, k, points, all, bad)
					switch {
					case !found && 2*count <= n-k:
						t.Fatalf("the trial itself failed")
					case !found:
						beyond++
					case 2*count > n-k && n > k:
						strange++
					}
				}
			}
		}
	}
	if beyond == 0 || strange == 0 {
		t.Errorf("%d columns beyond mending, %d near another polynomial", beyond, strange)
	}
}

// polynomial: of a degree below k; now and then of a smaller one, or 0.
func (d *dice) polynomial(k int) []byte {
	f := d.bytes(k)
	if d.next(3) == 0 {
		clear(f[d.next(k+1):])
	}
	return f
}

// pairs: numbers of coefficients and of points, at the limits and between.
func pairs() [][2]int {
	return [][2]int{{1, 1}, {1, 2}, {1, 3}, {1, 255}, {1, 256}, {2, 256}, {3, 256}, {127, 256}, {128, 256}, {129, 256}, {200, 256}, {252, 256}, {253, 256}, {254, 256}, {255, 256}, {256, 256}, {255, 255}, {64, 65}, {64, 66}, {64, 67}, {10, 100}, {50, 101}, {17, 26}}
}

// As many wrong values as the radius, or fewer: at the beginning, at the end, anywhere; by the same difference, or any.
func TestColumnWithinTheRadius(t *testing.T) {
	d := dice(3)
	for _, p := range pairs() {
		k, n := p[0], p[1]
		radius := (n - k) / 2
		for _, count := range []int{0, min(1, radius), radius / 2, max(0, radius-1), radius} {
			for round, at := range [][]int{firstOf(count), firstOf(n)[n-count:], d.some(count, n), d.some(count, n)} {
				points := d.some(n, 256)
				right := values(d.polynomial(k), points)
				bad := bytes.Clone(right)
				var wrong []int
				for _, i := range at {
					bad[i] = d.other(bad[i])
					if round == 2 {
						bad[i] = right[i] ^ 0x35
					}
					wrong = append(wrong, points[i])
				}
				checkColumn(t, k, points, bad, right, wrong, api.OK)
			}
		}
	}
}

// Two polynomials that agree at k - 1 points, as many as two can: between them lies a list that is one value beyond the radius of the one. It is near the other if n - k is even, and beyond mending if it is odd, for then nothing else can be near.
func TestColumnOneBeyondTheRadius(t *testing.T) {
	d := dice(4)
	for _, p := range pairs() {
		k, n := p[0], p[1]
		radius := (n - k) / 2
		for range 3 {
			points := d.some(n, 256)
			common := d.some(k-1, n)
			differ := beside(common, n)
			one := values(d.polynomial(k), points)
			other := bytes.Clone(one)
			factor := byte(1 + d.next(255))
			for _, i := range differ {
				product := factor
				for _, c := range common {
					product = products[product][byte(points[i]^points[c])]
				}
				other[i] ^= product
			}
			between := bytes.Clone(one)
			taken := d.some(radius+1, len(differ))
			for _, i := range taken {
				between[differ[i]] = other[differ[i]]
			}
			if (n-k)%2 == 1 {
				checkColumn(t, k, points, between, nil, nil, api.ErrBeyond)
				continue
			}
			var wrong []int
			for _, i := range beside(taken, len(differ)) {
				wrong = append(wrong, points[differ[i]])
			}
			checkColumn(t, k, points, between, other, wrong, api.OK)
		}
	}
}

// Any values of great numbers of points: of no polynomial near them, but for a chance that is none.
func TestColumnOfAnyValues(t *testing.T) {
	d := dice(5)
	for _, p := range [][2]int{{128, 256}, {1, 256}, {10, 100}, {200, 256}, {50, 101}} {
		points := d.some(p[1], 256)
		checkColumn(t, p[0], points, d.bytes(p[1]), nil, nil, api.ErrBeyond)
	}
}
