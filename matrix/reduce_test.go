package matrix

import (
	"bytes"
	"fmt"
	"slices"
	"testing"

	"cullet/api"
)

// smallShapes: all up to six rows and seven columns.
func smallShapes() [][2]int {
	var list [][2]int
	for rows := 1; rows <= 6; rows++ {
		for cols := 1; cols <= 7; cols++ {
			list = append(list, [2]int{rows, cols})
		}
	}
	return list
}

// smallMatrices: every matrix of noughts and ones of up to nine cells, mixed ones of all small shapes, and such of every rank.
func smallMatrices() []grid {
	var list []grid
	for _, s := range [][2]int{{1, 1}, {1, 2}, {2, 1}, {2, 2}, {1, 4}, {4, 1}, {2, 3}, {3, 2}, {2, 4}, {4, 2}, {3, 3}} {
		for bits := range 1 << (s[0] * s[1]) {
			a := blank(s[0], s[1])
			for i := range s[0] * s[1] {
				a[i/s[1]][i%s[1]] = byte(bits >> i & 1)
			}
			list = append(list, a)
		}
	}
	d := dice(20)
	for _, s := range smallShapes() {
		for _, noughts := range []int{0, 3, 6, 8, 10} {
			list = append(list, d.mixed(s[0], s[1], noughts))
		}
		for rank := 0; rank <= min(s[0], s[1]); rank++ {
			list = append(list, d.ranked(s[0], s[1], rank), d.ranked(s[0], s[1], rank))
		}
	}
	return list
}

// greatShapes: the greatest of each kind, wide and tall.
func greatShapes() [][2]int {
	return [][2]int{{256, 512}, {256, 256}, {256, 1}, {1, 512}, {2, 512}, {256, 2}, {255, 256}, {256, 255}, {100, 300}, {200, 50}}
}

// greatMatrices: of each great shape one of the full rank, one of a middling one, one of rank 1, and zeros.
func greatMatrices() []grid {
	d := dice(21)
	var list []grid
	for _, s := range greatShapes() {
		full := min(s[0], s[1])
		for _, rank := range []int{full, (full + 1) / 2, 1, 0} {
			list = append(list, d.ranked(s[0], s[1], rank))
		}
	}
	return list
}

// P10.10

func TestReduceExamples(t *testing.T) {
	for _, c := range []struct {
		a, want grid
		pivots  []int
	}{
		{grid{{0, 2}, {0, 1}}, grid{{0, 1}, {0, 0}}, []int{1}},
		{grid{{2, 4}}, grid{{1, 2}}, []int{0}},
		{grid{{0}}, grid{{0}}, nil},
		{grid{{7}}, grid{{1}}, []int{0}},
		{grid{{0, 0, 9}}, grid{{0, 0, 1}}, []int{2}},
		{grid{{0}, {0}, {9}}, grid{{1}, {0}, {0}}, []int{0}},
		{grid{{0, 0}, {0, 0}, {0, 0}}, grid{{0, 0}, {0, 0}, {0, 0}}, nil},
		{grid{{1, 1}, {1, 1}}, grid{{1, 1}, {0, 0}}, []int{0}},
		{grid{{0, 0, 3}, {0, 0, 0}, {5, 0, 0}}, grid{{1, 0, 0}, {0, 0, 1}, {0, 0, 0}}, []int{0, 2}},
		{grid{{1, 2, 0, 3}, {0, 0, 1, 4}, {1, 2, 1, 9}}, grid{{1, 2, 0, 0}, {0, 0, 1, 0}, {0, 0, 0, 1}}, []int{0, 2, 3}},
	} {
		m, pivots, e := Reduce(c.a)
		if e != api.OK || !same(m, c.want) || !slices.Equal(pivots, c.pivots) {
			t.Errorf("Reduce(%x) = %x, %v, %d, want %x, %v", c.a, m, pivots, e, c.want, c.pivots)
		}
	}
}

// marks: are the chapter's marks of a reduced form there?
func marks(m grid, pivots []int) string {
	for r, row := range m {
		if r >= len(pivots) {
			if lead(row) < len(row) {
				return "a row behind the pivots that isn't zeros alone"
			}
			continue
		}
		p := pivots[r]
		if lead(row) != p || row[p] != 1 {
			return "a row whose first cell isn't 1 at its pivot column"
		}
		if r > 0 && p <= pivots[r-1] {
			return "pivot columns that don't rise"
		}
		for other := range m {
			if other != r && m[other][p] != 0 {
				return "a pivot column with another cell"
			}
		}
	}
	return ""
}

// wantReduced: the marks, the number of rows and columns, and that the rows span the same.
func wantReduced(t *testing.T, a grid) {
	t.Helper()
	m, pivots, e := Reduce(a)
	if e != api.OK || len(m) != len(a) || len(pivots) > len(a) {
		t.Fatalf("Reduce(%x): %d rows, %d pivots, %d", short(a), len(m), len(pivots), e)
	}
	for _, row := range m {
		if len(row) != len(a[0]) {
			t.Fatalf("Reduce(%x): a row of %d cells", short(a), len(row))
		}
	}
	if what := marks(m, pivots); what != "" {
		t.Fatalf("Reduce(%x) = %x, %v: %s", short(a), short(m), pivots, what)
	}
	first := basisOf(a)
	for _, row := range m {
		if rest := first.rest(row); lead(rest) < len(rest) {
			t.Fatalf("Reduce(%x) = %x: its row %x isn't spanned by the first rows", short(a), short(m), row)
		}
	}
	for _, row := range a {
		rest := bytes.Clone(row)
		for r, p := range pivots {
			for c, cell := range m[r] {
				rest[c] ^= products[row[p]][cell]
			}
		}
		if lead(rest) < len(rest) {
			t.Fatalf("Reduce(%x) = %x: it doesn't span the row %x", short(a), short(m), row)
		}
	}
	if !slices.Equal(pivots, first.leads()) {
		t.Fatalf("Reduce(%x): the pivots' columns %v, want %v", short(a), pivots, first.leads())
	}
}

func TestReduceOfSmallMatrices(t *testing.T) {
	for _, a := range smallMatrices() {
		wantReduced(t, a)
	}
}

func TestReduceOfGreatMatrices(t *testing.T) {
	for _, a := range greatMatrices() {
		wantReduced(t, a)
	}
}

// A reduced form whose rows are stirred comes back, for there is just one; and it is its own reduced form.
func TestReduceGivesTheFormBack(t *testing.T) {
	d := dice(22)
	for _, s := range append(smallShapes(), greatShapes()...) {
		full := min(s[0], s[1])
		for _, rank := range []int{0, 1, full / 2, full - 1, full} {
			want, pivots := d.reduced(s[0], s[1], rank)
			for _, a := range []grid{d.stirred(want), want} {
				m, columns, e := Reduce(a)
				if e != api.OK || !same(m, want) || !slices.Equal(columns, pivots) {
					t.Fatalf("Reduce of a form of %v with %d pivots, its rows stirred or not: other rows, or pivots %v in the place of %v, %d", s, rank, columns, pivots, e)
				}
			}
		}
	}
}

// All rows of two cells: divided by the first that isn't 0.
func TestReduceOfEachRowOfTwo(t *testing.T) {
	for x := range 256 {
		for y := range 256 {
			want, pivots := []byte{1, products[inverses[x]][y]}, []int{0}
			if x == 0 && y == 0 {
				want, pivots = []byte{0, 0}, nil
			} else if x == 0 {
				want, pivots = []byte{0, 1}, []int{1}
			}
			m, columns, e := Reduce(grid{{byte(x), byte(y)}})
			if e != api.OK || !same(m, grid{want}) || !slices.Equal(columns, pivots) {
				t.Fatalf("Reduce of the row %d %d: %x, %v, %d", x, y, m, columns, e)
			}
		}
	}
}

func TestReduceOfZerosAlone(t *testing.T) {
	for _, s := range append(smallShapes(), greatShapes()...) {
		m, pivots, e := Reduce(blank(s[0], s[1]))
		wants(t, fmt.Sprintf("Reduce of zeros, %v", s), m, e, blank(s[0], s[1]))
		if len(pivots) != 0 {
			t.Errorf("Reduce of zeros, %v: pivots %v", s, pivots)
		}
	}
}

func TestReduceWithAPivotInEveryColumn(t *testing.T) {
	d := dice(23)
	for _, s := range [][2]int{{1, 1}, {2, 2}, {5, 5}, {6, 3}, {256, 1}, {256, 256}, {256, 200}} {
		want := append(one(s[1]), blank(s[0]-s[1], s[1])...)
		m, pivots, e := Reduce(d.ranked(s[0], s[1], s[1]))
		wants(t, fmt.Sprintf("Reduce of the full rank, %v", s), m, e, want)
		for c := range s[1] {
			if len(pivots) != s[1] || pivots[c] != c {
				t.Fatalf("Reduce of the full rank, %v: pivots %v", s, pivots)
			}
		}
	}
}

// P10.11

func TestRankExamples(t *testing.T) {
	for _, c := range []struct {
		a    grid
		want int
	}{
		{grid{{0, 0}}, 0}, {grid{{0}}, 0}, {grid{{5}}, 1}, {grid{{0, 5}}, 1}, {grid{{0}, {5}}, 1},
		{grid{{1, 2}, {3, 4}}, 2}, {grid{{1, 2}, {2, 4}}, 1}, {grid{{1, 1}, {1, 1}}, 1}, {grid{{0, 1}, {1, 0}, {1, 1}}, 2},
	} {
		if n, e := Rank(c.a); n != c.want || e != api.OK {
			t.Errorf("Rank(%x) = %d, %d, want %d", c.a, n, e, c.want)
		}
	}
}

// The rank is the side of the greatest square of rows and columns whose determinant isn't 0.
func TestRankByMinors(t *testing.T) {
	d := dice(24)
	for rows := 1; rows <= 4; rows++ {
		for cols := 1; cols <= 5; cols++ {
			list := []grid{d.mixed(rows, cols, 0), d.mixed(rows, cols, 5), d.mixed(rows, cols, 7)}
			for rank := 0; rank <= min(rows, cols); rank++ {
				list = append(list, d.ranked(rows, cols, rank))
			}
			for _, a := range list {
				if n, e := Rank(a); n != minorRank(a) || e != api.OK {
					t.Errorf("Rank(%x) = %d, %d, want %d", a, n, e, minorRank(a))
				}
			}
		}
	}
}

func TestRankOfEveryRank(t *testing.T) {
	d := dice(25)
	for _, s := range smallShapes() {
		for rank := 0; rank <= min(s[0], s[1]); rank++ {
			a := d.ranked(s[0], s[1], rank)
			if n, e := Rank(a); n != rank || e != api.OK {
				t.Errorf("Rank(%x) = %d, %d, want %d", a, n, e, rank)
			}
		}
	}
	for _, s := range greatShapes() {
		full := min(s[0], s[1])
		for _, rank := range []int{0, 1, full / 3, full - 1, full} {
			if n, e := Rank(d.ranked(s[0], s[1], rank)); n != rank || e != api.OK {
				t.Errorf("Rank of %v = %d, %d, want %d", s, n, e, rank)
			}
		}
	}
}

func TestRankOfAMatrixOfOneList(t *testing.T) {
	for _, rows := range []int{1, 2, 256} {
		row := []byte{0, 7, 7}
		a := slices.Repeat(grid{row}, rows)
		if n, e := Rank(a); n != 1 || e != api.OK {
			t.Errorf("Rank of %d rows that are one list: %d, %d", rows, n, e)
		}
		m, pivots, e := Reduce(a)
		wants(t, "Reduce of rows that are one list", m, e, append(grid{{0, 1, 1}}, blank(rows-1, 3)...))
		if !slices.Equal(pivots, []int{1}) || !bytes.Equal(row, []byte{0, 7, 7}) {
			t.Errorf("Reduce of %d rows that are one list: pivots %v, the row is then %x", rows, pivots, row)
		}
	}
}

// P10.12

func TestNullExamples(t *testing.T) {
	for _, c := range []struct{ a, want grid }{
		{grid{{1, 2, 3}}, grid{{2, 1, 0}, {3, 0, 1}}},
		{grid{{1}}, nil},
		{grid{{0}}, grid{{1}}},
		{grid{{0}, {0}}, grid{{1}}},
		{grid{{0, 0}}, grid{{1, 0}, {0, 1}}},
		{grid{{0, 1}}, grid{{1, 0}}},
		{grid{{2, 4}}, grid{{2, 1}}},
		{grid{{1, 5, 0, 6}, {0, 0, 7, 7}}, grid{{5, 1, 0, 0}, {6, 0, 1, 1}}},
	} {
		m, e := Null(c.a)
		wants(t, fmt.Sprintf("Null(%x)", c.a), m, e, c.want)
	}
}

// wantNull: a vector for each free column, in order: 1 there, 0 at the other free ones, and every row times it is 0. That fixes the vector.
func wantNull(t *testing.T, a grid) {
	t.Helper()
	pivots := basisOf(a).leads()
	var free []int
	for c := range a[0] {
		if !slices.Contains(pivots, c) {
			free = append(free, c)
		}
	}
	vectors, e := Null(a)
	if e != api.OK || len(vectors) != len(free) {
		t.Fatalf("Null(%x): %d vectors, %d, want %d", short(a), len(vectors), e, len(free))
	}
	for i, v := range vectors {
		if len(v) != len(a[0]) {
			t.Fatalf("Null(%x): a vector of %d cells", short(a), len(v))
		}
		for j, f := range free {
			if want := i == j; (v[f] == 1) != want || (v[f] == 0) == want {
				t.Fatalf("Null(%x): vector %d has %d at the column %d", short(a), i, v[f], f)
			}
		}
		for _, row := range a {
			sum := byte(0)
			for c, cell := range row {
				sum ^= products[cell][v[c]]
			}
			if sum != 0 {
				t.Fatalf("Null(%x): the vector %x times the row %x is %d", short(a), v, row, sum)
			}
		}
	}
}

func TestNullOfSmallMatrices(t *testing.T) {
	for _, a := range smallMatrices() {
		wantNull(t, a)
	}
}

func TestNullOfGreatMatrices(t *testing.T) {
	for _, a := range greatMatrices() {
		wantNull(t, a)
	}
}

// The cells at the pivots' columns are those of the reduced form in the free column.
func TestNullIsReadOffTheReducedForm(t *testing.T) {
	d := dice(26)
	for _, s := range append(smallShapes(), greatShapes()...) {
		full := min(s[0], s[1])
		for _, rank := range []int{0, 1, full / 2, full} {
			form, pivots := d.reduced(s[0], s[1], rank)
			var want grid
			for f := range s[1] {
				if slices.Contains(pivots, f) {
					continue
				}
				v := make([]byte, s[1])
				v[f] = 1
				for r, p := range pivots {
					v[p] = form[r][f]
				}
				want = append(want, v)
			}
			m, e := Null(d.stirred(form))
			wants(t, fmt.Sprintf("Null of %v with %d pivots", s, rank), m, e, want)
		}
	}
}

func TestNullOfAllColumnsAndOfNone(t *testing.T) {
	d := dice(27)
	for _, s := range [][2]int{{1, 1}, {3, 3}, {6, 2}, {256, 1}, {256, 256}} {
		m, e := Null(d.ranked(s[0], s[1], s[1]))
		wants(t, fmt.Sprintf("Null of a pivot in every column, %v", s), m, e, nil)
	}
	for _, s := range [][2]int{{1, 1}, {3, 3}, {1, 512}, {256, 512}, {256, 1}} {
		m, e := Null(blank(s[0], s[1]))
		wants(t, fmt.Sprintf("Null of zeros, %v", s), m, e, one(s[1]))
	}
}
