package matrix

import (
	"fmt"
	"slices"
	"testing"

	"cullet/api"
)

// P10.5

func TestMulExamples(t *testing.T) {
	m, e := Mul(grid{{1, 2}}, grid{{3}, {1}})
	wants(t, "Mul of a row and a column", m, e, grid{{1}})
	m, e = Mul(grid{{3}, {1}}, grid{{1, 2}})
	wants(t, "Mul of a column and a row", m, e, grid{{3, 6}, {1, 2}})
	m, e = Mul(grid{{1, 2}}, grid{{3}})
	refuses(t, "Mul of two columns and one row", m, e, api.ErrDims)
}

// One cell by one cell: all products of the field.
func TestMulOfOneCell(t *testing.T) {
	for x := range 256 {
		for y := range 256 {
			if m, e := Mul(grid{{byte(x)}}, grid{{byte(y)}}); e != api.OK || !same(m, grid{{products[x][y]}}) {
				t.Fatalf("Mul of %d and %d: %x, %d", x, y, m, e)
			}
		}
	}
}

func TestMulAtEachShape(t *testing.T) {
	d := dice(1)
	for rows := 1; rows <= 6; rows++ {
		for inner := 1; inner <= 6; inner++ {
			for cols := 1; cols <= 6; cols++ {
				for _, noughts := range []int{0, 5, 10} {
					a, b := d.mixed(rows, inner, noughts), d.mixed(inner, cols, 3)
					m, e := Mul(a, b)
					wants(t, fmt.Sprintf("Mul(%x, %x)", a, b), m, e, timesOf(a, b))
				}
			}
		}
	}
}

func TestMulOfGreatMatrices(t *testing.T) {
	d := dice(2)
	for _, c := range [][3]int{{256, 256, 512}, {1, 256, 1}, {1, 256, 512}, {256, 1, 512}, {256, 256, 1}, {256, 1, 1}, {1, 1, 512}, {255, 200, 511}} {
		a, b := d.mixed(c[0], c[1], 1), d.mixed(c[1], c[2], 1)
		m, e := Mul(a, b)
		wants(t, fmt.Sprintf("Mul of %v", c), m, e, timesOf(a, b))
	}
}

func TestMulByTheIdentity(t *testing.T) {
	d := dice(3)
	for _, c := range [][2]int{{1, 1}, {3, 5}, {5, 3}, {256, 256}, {1, 256}} {
		a := d.mixed(c[0], c[1], 2)
		m, e := Mul(one(c[0]), a)
		wants(t, "Mul of the identity and a matrix", m, e, a)
		m, e = Mul(a, one(c[1]))
		wants(t, "Mul of a matrix and the identity", m, e, a)
	}
	a := d.mixed(256, 512, 2)
	m, e := Mul(one(256), a)
	wants(t, "Mul of the identity and the greatest matrix", m, e, a)
}

func TestMulOfUnlikeSides(t *testing.T) {
	d := dice(4)
	sides := []int{1, 2, 3, 4, 255, 256}
	for _, inner := range append(sides, 257, 511, 512) {
		for _, rows := range sides {
			if inner == rows {
				continue
			}
			m, e := Mul(d.mixed(2, inner, 2), d.mixed(rows, 2, 2))
			refuses(t, fmt.Sprintf("Mul of %d columns and %d rows", inner, rows), m, e, api.ErrDims)
			// The other two sides' agreeing doesn't help.
			m, e = Mul(d.mixed(3, inner, 2), d.mixed(rows, 3, 2))
			refuses(t, fmt.Sprintf("Mul of 3 rows of %d columns and %d rows of 3", inner, rows), m, e, api.ErrDims)
		}
	}
	m, e := Mul(d.mixed(4, 3, 2), d.mixed(4, 3, 2))
	refuses(t, "Mul of two matrices of one shape that isn't square", m, e, api.ErrDims)
}

// P10.6

func TestTransposeExample(t *testing.T) {
	m, e := Transpose(grid{{1, 2, 3}})
	wants(t, "Transpose of a row", m, e, grid{{1}, {2}, {3}})
	m, e = Transpose(grid{{1}, {2}, {3}})
	wants(t, "Transpose of a column", m, e, grid{{1, 2, 3}})
}

func TestTransposeAtEachShape(t *testing.T) {
	d := dice(5)
	shapes := [][2]int{{256, 256}, {1, 256}, {256, 1}, {255, 256}, {256, 255}, {2, 256}, {100, 200}}
	for rows := 1; rows <= 6; rows++ {
		for cols := 1; cols <= 6; cols++ {
			shapes = append(shapes, [2]int{rows, cols})
		}
	}
	for _, s := range shapes {
		a := d.mixed(s[0], s[1], 1)
		want := blank(s[1], s[0])
		for r := range want {
			for c := range want[r] {
				want[r][c] = a[c][r]
			}
		}
		m, e := Transpose(a)
		wants(t, fmt.Sprintf("Transpose of %v", s), m, e, want)
		m, e = Transpose(m)
		wants(t, fmt.Sprintf("Transpose twice of %v", s), m, e, a)
	}
}

func TestTransposeBeyond(t *testing.T) {
	for _, rows := range []int{1, 2, 255, 256} {
		for _, cols := range []int{257, 258, 300, 511, 512} {
			m, e := Transpose(blank(rows, cols))
			refuses(t, fmt.Sprintf("Transpose of %d rows of %d", rows, cols), m, e, api.ErrShape)
		}
	}
}

// P10.7

func TestSubExample(t *testing.T) {
	m, e := Sub(grid{{1, 2}, {3, 4}}, 1, 2, 0, 2)
	wants(t, "Sub of a row", m, e, grid{{3, 4}})
}

// wantSub: the cells in the chapter's words, or ErrRange.
func wantSub(t *testing.T, a grid, r0, r1, c0, c1 int) {
	t.Helper()
	what := fmt.Sprintf("Sub of %d rows of %d, %d %d %d %d", len(a), len(a[0]), r0, r1, c0, c1)
	m, e := Sub(a, r0, r1, c0, c1)
	if !(0 <= r0 && r0 < r1 && r1 <= len(a) && 0 <= c0 && c0 < c1 && c1 <= len(a[0])) {
		refuses(t, what, m, e, api.ErrRange)
		return
	}
	var want grid
	for r := r0; r < r1; r++ {
		var row []byte
		for c := c0; c < c1; c++ {
			row = append(row, a[r][c])
		}
		want = append(want, row)
	}
	wants(t, what, m, e, want)
}

func TestSubAtEachNumber(t *testing.T) {
	d := dice(6)
	for _, s := range [][2]int{{1, 1}, {1, 3}, {3, 1}, {3, 4}} {
		a := d.mixed(s[0], s[1], 0)
		for r0 := -2; r0 <= s[0]+2; r0++ {
			for r1 := -2; r1 <= s[0]+2; r1++ {
				for c0 := -2; c0 <= s[1]+2; c0++ {
					for c1 := -2; c1 <= s[1]+2; c1++ {
						wantSub(t, a, r0, r1, c0, c1)
					}
				}
			}
		}
	}
}

func TestSubOfTheGreatest(t *testing.T) {
	d := dice(7)
	a := d.mixed(256, 512, 0)
	for _, c := range [][4]int{{0, 256, 0, 512}, {255, 256, 511, 512}, {0, 1, 0, 1}, {0, 256, 256, 512}, {17, 200, 100, 400}, {0, 257, 0, 512}, {0, 256, 0, 513}, {256, 257, 0, 1}, {0, 1, 512, 513}, {256, 256, 0, 512}, {0, 256, 512, 512}} {
		wantSub(t, a, c[0], c[1], c[2], c[3])
	}
}

// Each number wrong alone, at the ends of int too.
func TestSubOfWrongNumbers(t *testing.T) {
	d := dice(8)
	a := d.mixed(4, 5, 0)
	good := [4]int{1, 3, 1, 4}
	for i := range good {
		for _, n := range append(ends(), -1, -5, 6, 7, 100) {
			c := good
			c[i] = n
			wantSub(t, a, c[0], c[1], c[2], c[3])
			if m, e := Sub(a, c[0], c[1], c[2], c[3]); e != api.ErrRange || len(m) != 0 {
				t.Errorf("Sub of %v: %x, %d", c, m, e)
			}
		}
	}
	for _, low := range ends() {
		for _, high := range ends() {
			wantSub(t, a, low, high, 0, 1)
			wantSub(t, a, 0, 1, low, high)
			wantSub(t, a, low, high, low, high)
		}
	}
}

func TestSubOfNothing(t *testing.T) {
	d := dice(9)
	a := d.mixed(4, 5, 0)
	for n := 0; n <= 4; n++ {
		m, e := Sub(a, n, n, 0, 5)
		refuses(t, fmt.Sprintf("Sub of no rows at %d", n), m, e, api.ErrRange)
		m, e = Sub(a, 0, 4, n, n)
		refuses(t, fmt.Sprintf("Sub of no columns at %d", n), m, e, api.ErrRange)
	}
}

// P10.8

func TestPickExample(t *testing.T) {
	a, _ := Vandermonde(3, 3)
	m, e := Pick(a, []int{2, 0, 2})
	wants(t, "Pick of 2, 0, 2", m, e, grid{{1, 2, 4}, {1, 0, 0}, {1, 2, 4}})
}

// wantPick: the rows in the chapter's words, or ErrRange.
func wantPick(t *testing.T, a grid, rows []int) {
	t.Helper()
	what := fmt.Sprintf("Pick of %d rows, %d numbers beginning with %v", len(a), len(rows), rows[:min(len(rows), 4)])
	wrong := len(rows) == 0 || len(rows) > 256
	var want grid
	for _, r := range rows {
		if r < 0 || r >= len(a) {
			wrong = true
			break
		}
		want = append(want, a[r])
	}
	m, e := Pick(a, rows)
	if wrong {
		refuses(t, what, m, e, api.ErrRange)
	} else {
		wants(t, what, m, e, want)
	}
}

func TestPickOfEachList(t *testing.T) {
	d := dice(10)
	a := d.mixed(3, 4, 0)
	wantPick(t, a, nil)
	wantPick(t, a, []int{})
	wantPick(t, a, make([]int, 0, 5))
	for x := -2; x <= 4; x++ {
		wantPick(t, a, []int{x})
		for y := -2; y <= 4; y++ {
			wantPick(t, a, []int{x, y})
			for z := -2; z <= 4; z++ {
				wantPick(t, a, []int{x, y, z})
			}
		}
	}
}

func TestPickOfManyNumbers(t *testing.T) {
	d := dice(11)
	for _, s := range [][2]int{{1, 1}, {3, 2}, {256, 3}, {256, 512}, {1, 512}} {
		a := d.mixed(s[0], s[1], 0)
		for _, count := range []int{255, 256, 257, 258, 1000} {
			alike, falling := make([]int, count), make([]int, count)
			for i := range count {
				alike[i] = s[0] - 1
				falling[i] = (count - i) % s[0]
			}
			wantPick(t, a, alike)
			wantPick(t, a, falling)
			wantPick(t, a, slices.Repeat([]int{-1}, count))
		}
	}
}

// A wrong number is told wherever it stands.
func TestPickOfWrongNumbers(t *testing.T) {
	d := dice(12)
	a := d.mixed(5, 3, 0)
	for _, count := range []int{1, 2, 5, 256} {
		for _, place := range []int{0, count / 2, count - 1} {
			for _, n := range append(ends(), -1, -2, -5, 5, 6, 256, 257) {
				rows := make([]int, count)
				rows[place] = n
				wantPick(t, a, rows)
				if m, e := Pick(a, rows); e != api.ErrRange || len(m) != 0 {
					t.Errorf("Pick with %d at %d of %d: %d", n, place, count, e)
				}
			}
		}
	}
}

// P10.9

func TestAugmentExample(t *testing.T) {
	m, e := Augment(grid{{1}, {2}}, grid{{3}, {4}})
	wants(t, "Augment", m, e, grid{{1, 3}, {2, 4}})
}

func wantAugment(t *testing.T, a, b grid) {
	t.Helper()
	var want grid
	for r := range a {
		want = append(want, slices.Concat(a[r], b[r]))
	}
	m, e := Augment(a, b)
	wants(t, fmt.Sprintf("Augment of %d rows of %d and %d", len(a), len(a[0]), len(b[0])), m, e, want)
}

func TestAugmentAtEachShape(t *testing.T) {
	d := dice(13)
	for rows := 1; rows <= 5; rows++ {
		for left := 1; left <= 5; left++ {
			for right := 1; right <= 5; right++ {
				wantAugment(t, d.mixed(rows, left, 0), d.mixed(rows, right, 0))
			}
		}
	}
	for _, left := range []int{1, 2, 255, 256, 257, 510, 511} {
		for _, rows := range []int{1, 2, 256} {
			wantAugment(t, d.mixed(rows, left, 0), d.mixed(rows, 512-left, 0))
		}
	}
}

func TestAugmentBeyond(t *testing.T) {
	for _, rows := range []int{1, 2, 256} {
		for _, left := range []int{1, 2, 255, 256, 257, 511, 512} {
			for _, together := range []int{513, 514, left + 512} {
				right := together - left
				if right > 512 {
					continue
				}
				m, e := Augment(blank(rows, left), blank(rows, right))
				refuses(t, fmt.Sprintf("Augment of %d and %d columns", left, right), m, e, api.ErrDims)
			}
		}
	}
}

func TestAugmentOfUnlikeRows(t *testing.T) {
	numbers := []int{1, 2, 3, 255, 256}
	for _, upper := range numbers {
		for _, lower := range numbers {
			if upper == lower {
				continue
			}
			for _, cols := range []int{1, 3, 256, 512} { // at 512 both reasons hold
				m, e := Augment(blank(upper, cols), blank(lower, cols))
				refuses(t, fmt.Sprintf("Augment of %d and %d rows", upper, lower), m, e, api.ErrDims)
			}
		}
	}
}
