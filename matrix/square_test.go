package matrix

import (
	"fmt"
	"slices"
	"testing"

	"cullet/api"
)

// squares: mixed ones of sides 1 to 5, and all of side 2 over a few elements.
func squares() []grid {
	d := dice(40)
	var list []grid
	for n := 1; n <= 5; n++ {
		for _, noughts := range []int{0, 2, 4, 5, 6, 7, 10} {
			for range 6 {
				list = append(list, d.mixed(n, n, noughts))
			}
		}
	}
	some := []byte{0, 1, 2, 3, 4, 0x8E, 0xFF}
	for _, w := range some {
		for _, x := range some {
			for _, y := range some {
				for _, z := range some {
					list = append(list, grid{{w, x}, {y, z}})
				}
			}
		}
	}
	return list
}

// notSquare: matrices that have form, and other numbers of rows and columns.
func notSquare() []grid {
	return []grid{{{1, 2}}, {{1}, {2}}, {{0, 0}}, {{1, 0, 0}, {0, 1, 0}}, {{1, 0}, {0, 1}, {0, 0}}, blank(256, 512), blank(255, 256), blank(256, 255), blank(256, 257), blank(1, 512), blank(256, 1)}
}

// square: one of that side and rank.
func (d *dice) square(n, rank int) grid { return d.ranked(n, n, rank) }

// P10.13

func TestDetExamples(t *testing.T) {
	for _, c := range []struct {
		a    grid
		want byte
	}{
		{grid{{1, 2}, {3, 4}}, 2}, {grid{{0}}, 0}, {grid{{77}}, 77}, {grid{{0, 1}, {1, 0}}, 1}, {grid{{1, 1}, {1, 1}}, 0},
		{grid{{0, 5}, {3, 0}}, 15}, {grid{{2, 0}, {0, 2}}, 4}, {grid{{0, 0, 2}, {3, 0, 0}, {0, 1, 0}}, 6}, {grid{{1, 2}, {0, 0}}, 0}, {grid{{0, 2}, {0, 3}}, 0},
	} {
		if d, e := Det(c.a); d != c.want || e != api.OK {
			t.Errorf("Det(%x) = %d, %d, want %d", c.a, d, e, c.want)
		}
	}
}

func TestDetIsTheSumOverAllChoices(t *testing.T) {
	for _, a := range squares() {
		if d, e := Det(a); d != detOf(a) || e != api.OK {
			t.Errorf("Det(%x) = %d, %d, want %d", a, d, e, detOf(a))
		}
	}
	d := dice(41)
	for _, n := range []int{6, 7} {
		for _, noughts := range []int{0, 4, 6} {
			a := d.mixed(n, n, noughts)
			if det, e := Det(a); det != detOf(a) || e != api.OK {
				t.Errorf("Det(%x) = %d, %d, want %d", a, det, e, detOf(a))
			}
		}
	}
}

func TestDetOfOneCell(t *testing.T) {
	for x := range 256 {
		if d, e := Det(grid{{byte(x)}}); d != byte(x) || e != api.OK {
			t.Errorf("Det of the cell %d = %d, %d", x, d, e)
		}
	}
}

// Of all matrices with one cell in each row and each column there is one choice alone.
func TestDetOfPermutations(t *testing.T) {
	d := dice(42)
	for _, n := range []int{1, 2, 3, 10, 100, 256} {
		a, want := blank(n, n), byte(1)
		places := d.shuffled(n)
		for r, c := range places {
			a[r][c] = d.unit()
			want = products[want][a[r][c]]
		}
		if det, e := Det(a); det != want || e != api.OK {
			t.Errorf("Det of one cell a row, %d rows: %d, %d, want %d", n, det, e, want)
		}
	}
}

// shuffled: the numbers below n in an order of chance.
func (d *dice) shuffled(n int) []int {
	list := make([]int, n)
	for i := range list {
		list[i] = i
		other := d.next(i + 1)
		list[i], list[other] = list[other], list[i]
	}
	return list
}

// Of a Vandermonde matrix the determinant is the product of all differences of two points.
func TestDetOfVandermonde(t *testing.T) {
	for n := 1; n <= 256; n += 1 + n/20 {
		want := byte(1)
		for i := range n {
			for j := range i {
				want = products[want][i^j]
			}
		}
		a, _ := Vandermonde(n, n)
		if det, e := Det(a); det != want || e != api.OK || det == 0 {
			t.Errorf("Det of Vandermonde(%d, %d) = %d, %d, want %d", n, n, det, e, want)
		}
	}
}

// Of a product the determinant is the product of both; a row times a factor makes it that factor times as great.
func TestDetOfProducts(t *testing.T) {
	d := dice(43)
	for _, n := range []int{2, 5, 20, 100, 256} {
		a, b := d.square(n, n), d.square(n, n)
		x, _ := Det(a)
		y, _ := Det(b)
		if det, e := Det(timesOf(a, b)); det != products[x][y] || e != api.OK || det == 0 {
			t.Errorf("Det of a product, side %d: %d, %d, want %d times %d", n, det, e, x, y)
		}
		for i := range a[n-1] {
			a[n-1][i] = products[9][a[n-1][i]]
		}
		if det, e := Det(a); det != products[9][x] || e != api.OK {
			t.Errorf("Det with a row times 9, side %d: %d, %d, want 9 times %d", n, det, e, x)
		}
	}
}

func TestDetOfSingularOnes(t *testing.T) {
	d := dice(44)
	for n := 1; n <= 7; n++ {
		for rank := range n {
			a := d.square(n, rank)
			if det, e := Det(a); det != 0 || e != api.OK {
				t.Errorf("Det(%x), of rank %d: %d, %d", a, rank, det, e)
			}
		}
	}
	for _, rank := range []int{0, 1, 128, 254, 255} {
		if det, e := Det(d.square(256, rank)); det != 0 || e != api.OK {
			t.Errorf("Det of side 256 and rank %d: %d, %d", rank, det, e)
		}
	}
	if det, e := Det(slices.Repeat(grid{{1, 2, 3}}, 3)); det != 0 || e != api.OK {
		t.Errorf("Det of rows that are one list: %d, %d", det, e)
	}
}

func TestDetOfNoSquare(t *testing.T) {
	for _, a := range notSquare() {
		if det, e := Det(a); det != 0 || e != api.ErrDims {
			t.Errorf("Det of %d rows of %d: %d, %d", len(a), len(a[0]), det, e)
		}
	}
}

// P10.14

func TestInvertExamples(t *testing.T) {
	for _, c := range []struct{ a, want grid }{
		{grid{{0, 1}, {1, 0}}, grid{{0, 1}, {1, 0}}},
		{grid{{2}}, grid{{0x8E}}},
		{grid{{1, 2}, {3, 4}}, grid{{2, 1}, {0x8F, 0x8E}}},
		{grid{{0, 0, 1}, {1, 0, 0}, {0, 1, 0}}, grid{{0, 1, 0}, {0, 0, 1}, {1, 0, 0}}},
	} {
		m, e := Invert(c.a)
		wants(t, fmt.Sprintf("Invert(%x)", c.a), m, e, c.want)
	}
	m, e := Invert(grid{{1, 1}, {1, 1}})
	refuses(t, "Invert of ones alone", m, e, api.ErrSingular)
}

func TestInvertOfOneCell(t *testing.T) {
	m, e := Invert(grid{{0}})
	refuses(t, "Invert of the cell 0", m, e, api.ErrSingular)
	for x := 1; x < 256; x++ {
		m, e := Invert(grid{{byte(x)}})
		wants(t, fmt.Sprintf("Invert of the cell %d", x), m, e, grid{{inverses[x]}})
	}
}

// wantInverse: both products are the identity.
func wantInverse(t *testing.T, a grid) {
	t.Helper()
	m, e := Invert(a)
	if e != api.OK || len(m) != len(a) || len(m[0]) != len(a) {
		t.Fatalf("Invert(%x) = %x, %d", short(a), short(m), e)
	}
	if !same(timesOf(a, m), one(len(a))) || !same(timesOf(m, a), one(len(a))) {
		t.Fatalf("Invert(%x) = %x: a product isn't the identity", short(a), short(m))
	}
}

// The inverse is there just where the sum over all choices isn't 0.
func TestInvertOfSmallOnes(t *testing.T) {
	for _, a := range squares() {
		if detOf(a) != 0 {
			wantInverse(t, a)
			continue
		}
		m, e := Invert(a)
		refuses(t, fmt.Sprintf("Invert(%x)", a), m, e, api.ErrSingular)
	}
}

func TestInvertOfGreatOnes(t *testing.T) {
	d := dice(45)
	for _, n := range []int{6, 17, 100, 255, 256} {
		wantInverse(t, d.square(n, n))
		a, _ := Vandermonde(n, n)
		wantInverse(t, a)
		m, e := Invert(one(n))
		wants(t, "Invert of the identity", m, e, one(n))
	}
	for _, n := range []int{1, 2, 9, 64, 128} {
		a, _ := Cauchy(n, n)
		wantInverse(t, a)
	}
	// The pivots stand in the last rows, so that each column has its rows changed.
	a := blank(256, 256)
	for r := range a {
		a[r][255-r] = byte(1 + r%255)
	}
	wantInverse(t, a)
}

func TestInvertOfSingularOnes(t *testing.T) {
	d := dice(46)
	for n := 1; n <= 7; n++ {
		for rank := range n {
			a := d.square(n, rank)
			m, e := Invert(a)
			refuses(t, fmt.Sprintf("Invert(%x), of rank %d", a, rank), m, e, api.ErrSingular)
		}
	}
	for _, rank := range []int{0, 1, 128, 254, 255} {
		m, e := Invert(d.square(256, rank))
		refuses(t, fmt.Sprintf("Invert of side 256 and rank %d", rank), m, e, api.ErrSingular)
	}
	// One row or one column of zeros, at each place.
	for n := range 5 {
		a, b := one(5), one(5)
		a[n] = make([]byte, 5)
		for r := range b {
			b[r][n] = 0
		}
		m, e := Invert(a)
		refuses(t, fmt.Sprintf("Invert without row %d", n), m, e, api.ErrSingular)
		m, e = Invert(b)
		refuses(t, fmt.Sprintf("Invert without column %d", n), m, e, api.ErrSingular)
	}
	m, e := Invert(slices.Repeat(grid{{1, 2, 3}}, 3))
	refuses(t, "Invert of rows that are one list", m, e, api.ErrSingular)
}

// ErrDims, whether the rows or columns span all or not.
func TestInvertOfNoSquare(t *testing.T) {
	for _, a := range notSquare() {
		m, e := Invert(a)
		refuses(t, fmt.Sprintf("Invert of %d rows of %d", len(a), len(a[0])), m, e, api.ErrDims)
	}
}

// P10.15

func TestSolveExamples(t *testing.T) {
	m, e := Solve(grid{{2}}, grid{{4, 2}})
	wants(t, "Solve of 2 and 4, 2", m, e, grid{{2, 1}})
	m, e = Solve(grid{{0}}, grid{{0}})
	refuses(t, "Solve of 0 and 0", m, e, api.ErrSingular)
	m, e = Solve(grid{{0, 1}, {1, 0}}, grid{{5}, {6}})
	wants(t, "Solve of two rows changed for one another", m, e, grid{{6}, {5}})
}

// wantSolved: a times the answer is b.
func wantSolved(t *testing.T, a, b grid) {
	t.Helper()
	x, e := Solve(a, b)
	if e != api.OK || len(x) != len(a) || len(x[0]) != len(b[0]) || !same(timesOf(a, x), b) {
		t.Fatalf("Solve(%x, %x) = %x, %d", short(a), short(b), short(x), e)
	}
}

// The answer is there just where the sum over all choices isn't 0, whatever b is.
func TestSolveOfSmallOnes(t *testing.T) {
	d := dice(47)
	for _, a := range squares() {
		n := len(a)
		for _, b := range []grid{d.mixed(n, 1, 2), d.mixed(n, n, 2), d.mixed(n, 7, 2), blank(n, 2), copies(a), one(n), timesOf(a, d.mixed(n, 2, 0))} {
			if detOf(a) != 0 {
				wantSolved(t, a, b)
				continue
			}
			m, e := Solve(a, b)
			refuses(t, fmt.Sprintf("Solve(%x, %x)", a, b), m, e, api.ErrSingular)
		}
	}
}

// Columns of both together may be more than a matrix may have.
func TestSolveOfGreatOnes(t *testing.T) {
	d := dice(48)
	for _, c := range [][2]int{{256, 512}, {256, 257}, {256, 256}, {256, 1}, {1, 512}, {1, 511}, {2, 512}, {255, 258}, {200, 400}, {100, 30}} {
		wantSolved(t, d.square(c[0], c[0]), d.mixed(c[0], c[1], 1))
	}
	a, _ := Vandermonde(256, 256)
	wantSolved(t, a, d.mixed(256, 512, 1))
	b := d.mixed(256, 512, 1)
	m, e := Solve(one(256), b)
	wants(t, "Solve of the identity", m, e, b)
}

func TestSolveOfZerosAndOfItself(t *testing.T) {
	d := dice(49)
	for _, n := range []int{1, 2, 6, 256} {
		a := d.square(n, n)
		m, e := Solve(a, blank(n, 3))
		wants(t, "Solve of zeros", m, e, blank(n, 3))
		m, e = Solve(a, a)
		wants(t, "Solve of a matrix and itself", m, e, one(n))
		inverse, _ := Invert(a)
		m, e = Solve(a, one(n))
		wants(t, "Solve of the identity's columns", m, e, inverse)
	}
}

func TestSolveOfSingularOnes(t *testing.T) {
	d := dice(50)
	for n := 1; n <= 7; n++ {
		for rank := range n {
			a := d.square(n, rank)
			for _, b := range []grid{blank(n, 1), d.mixed(n, 3, 0), a, one(n), timesOf(a, d.mixed(n, 512, 0))} {
				m, e := Solve(a, b)
				refuses(t, fmt.Sprintf("Solve of side %d and rank %d", n, rank), m, e, api.ErrSingular)
			}
		}
	}
	for _, rank := range []int{0, 1, 255} {
		m, e := Solve(d.square(256, rank), d.mixed(256, 512, 0))
		refuses(t, fmt.Sprintf("Solve of side 256 and rank %d", rank), m, e, api.ErrSingular)
	}
}

func TestSolveOfWrongSides(t *testing.T) {
	for _, a := range notSquare() {
		for _, rows := range []int{len(a), min(len(a[0]), 256), 1, 3} {
			m, e := Solve(a, blank(rows, 2))
			refuses(t, fmt.Sprintf("Solve of %d rows of %d, and %d rows", len(a), len(a[0]), rows), m, e, api.ErrDims)
		}
	}
	for _, n := range []int{1, 2, 3, 256} {
		for _, rows := range []int{1, 2, 3, 4, 255, 256} {
			if rows == n {
				continue
			}
			for _, a := range []grid{one(n), blank(n, n)} { // ahead of ErrSingular too
				m, e := Solve(a, blank(rows, n))
				refuses(t, fmt.Sprintf("Solve of side %d and %d rows", n, rows), m, e, api.ErrDims)
			}
		}
	}
}
