package matrix

import (
	"fmt"
	"math"
	"testing"

	"cullet/api"
)

// P10.1

func TestCheckOfFormless(t *testing.T) {
	for i, a := range formless() {
		if e := Check(a); e != api.ErrShape {
			t.Errorf("Check of the formless matrix %d, of %d rows: %d", i, len(a), e)
		}
	}
}

func TestCheckAtEachNumber(t *testing.T) {
	for _, rows := range []int{1, 2, 3, 17, 128, 255, 256, 257, 258, 511, 512, 513} {
		for _, cols := range []int{0, 1, 2, 3, 255, 256, 257, 510, 511, 512, 513, 514, 1024} {
			want := api.ErrShape
			if rows <= 256 && cols >= 1 && cols <= 512 {
				want = api.OK
			}
			if e := Check(blank(rows, cols)); e != want {
				t.Errorf("Check of %d rows of %d cells: %d, want %d", rows, cols, e, want)
			}
		}
	}
}

// A row of another length is told wherever it stands.
func TestCheckOfEachUnlikeRow(t *testing.T) {
	for _, rows := range []int{2, 3, 5, 256} {
		for r := range rows {
			for _, length := range []int{0, 1, 3, 5, 512, 513} {
				a := blank(rows, 4)
				a[r] = make([]byte, length)
				if e := Check(a); e != api.ErrShape {
					t.Errorf("Check of %d rows of 4 cells, row %d of %d: %d", rows, r, length, e)
				}
				a[r] = nil
				if e := Check(a); e != api.ErrShape {
					t.Errorf("Check of %d rows of 4 cells, row %d nil: %d", rows, r, e)
				}
			}
		}
	}
}

// What stands in the cells, and what lies behind a row's end, is of no weight.
func TestCheckLooksAtLengthsAlone(t *testing.T) {
	row := make([]byte, 3, 600)
	if e := Check(grid{row, row, {255, 0, 7}}); e != api.OK {
		t.Errorf("Check of rows with spare room: %d", e)
	}
	if e := Check(make(grid, 256, 300)); e != api.ErrShape {
		t.Errorf("Check of nil rows: %d", e)
	}
	if e := Check(blank(300, 2)[:256]); e != api.OK {
		t.Errorf("Check of 256 rows with more behind them: %d", e)
	}
}

// P10.2

func TestIdentityAtEachNumber(t *testing.T) {
	for n := 1; n <= 256; n++ {
		m, e := Identity(n)
		wants(t, fmt.Sprintf("Identity(%d)", n), m, e, one(n))
	}
	for _, n := range append(ends(), 0, -1, -2, -256, 257, 258, 512, 513) {
		m, e := Identity(n)
		refuses(t, fmt.Sprintf("Identity(%d)", n), m, e, api.ErrShape)
	}
}

// P10.3

// powersOf: the cell in row r and column c is the product of c factors r.
func powersOf(rows, cols int) grid {
	m := blank(rows, cols)
	for r := range m {
		for c := range m[r] {
			m[r][c] = 1
			for range c {
				m[r][c] = products[m[r][c]][r]
			}
		}
	}
	return m
}

func TestVandermondeExample(t *testing.T) {
	m, e := Vandermonde(3, 3)
	wants(t, "Vandermonde(3, 3)", m, e, grid{{1, 0, 0}, {1, 1, 1}, {1, 2, 4}})
	m, e = Vandermonde(4, 4)
	wants(t, "Vandermonde(4, 4)", m, e, grid{{1, 0, 0, 0}, {1, 1, 1, 1}, {1, 2, 4, 8}, {1, 3, 5, 15}})
}

func TestVandermondeAtEachNumber(t *testing.T) {
	whole := powersOf(256, 512)
	for _, rows := range []int{1, 2, 3, 7, 128, 254, 255, 256} {
		for _, cols := range []int{1, 2, 3, 8, 9, 254, 255, 256, 257, 258, 510, 511, 512} {
			want := make(grid, rows)
			for r := range want {
				want[r] = whole[r][:cols]
			}
			m, e := Vandermonde(rows, cols)
			wants(t, fmt.Sprintf("Vandermonde(%d, %d)", rows, cols), m, e, want)
		}
	}
}

func TestVandermondeOfRowAndColumnNought(t *testing.T) {
	m, e := Vandermonde(256, 512)
	if e != api.OK || len(m) != 256 || len(m[0]) != 512 {
		t.Fatalf("Vandermonde(256, 512): %d rows, %d", len(m), e)
	}
	for r := range m {
		if m[r][0] != 1 || m[r][1] != byte(r) || m[r][255+1] != byte(r) {
			t.Errorf("row %d: %d in column 0, %d in column 1, %d in column 256", r, m[r][0], m[r][1], m[r][256])
		}
	}
	for c := 1; c < 512; c++ {
		if m[0][c] != 0 || m[1][c] != 1 {
			t.Errorf("column %d: %d in row 0, %d in row 1", c, m[0][c], m[1][c])
		}
	}
}

func TestVandermondeBeyond(t *testing.T) {
	for _, n := range append(ends(), 0, -1, -2, -256, 257, 258, 512, 513) {
		for _, cols := range []int{1, 3, 512, 0, 513, n} {
			m, e := Vandermonde(n, cols)
			refuses(t, fmt.Sprintf("Vandermonde(%d, %d)", n, cols), m, e, api.ErrShape)
		}
	}
	for _, n := range append(ends(), 0, -1, -2, -512, 513, 514, 1024) {
		for _, rows := range []int{1, 3, 256, 0, 257} {
			m, e := Vandermonde(rows, n)
			refuses(t, fmt.Sprintf("Vandermonde(%d, %d)", rows, n), m, e, api.ErrShape)
		}
	}
}

// P10.4

func TestCauchyExamples(t *testing.T) {
	m, e := Cauchy(1, 2)
	wants(t, "Cauchy(1, 2)", m, e, grid{{0x8E, 0xF4}})
	m, e = Cauchy(1, 1)
	wants(t, "Cauchy(1, 1)", m, e, grid{{1}})
	m, e = Cauchy(2, 1)
	wants(t, "Cauchy(2, 1)", m, e, grid{{1}, {0x8E}})
	m, e = Cauchy(1, 256)
	refuses(t, "Cauchy(1, 256)", m, e, api.ErrShape)
}

// wantCauchy: the cells in the chapter's words.
func wantCauchy(t *testing.T, rows, cols int) {
	t.Helper()
	want := blank(rows, cols)
	for r := range want {
		for c := range want[r] {
			want[r][c] = inverses[(cols+r)^c]
		}
	}
	m, e := Cauchy(rows, cols)
	wants(t, fmt.Sprintf("Cauchy(%d, %d)", rows, cols), m, e, want)
}

func TestCauchyAtEachNumber(t *testing.T) {
	for rows := 1; rows <= 20; rows++ {
		for cols := 1; cols <= 20; cols++ {
			wantCauchy(t, rows, cols)
		}
	}
	for rows := 1; rows <= 255; rows++ {
		wantCauchy(t, rows, 256-rows)
		if rows <= 254 {
			wantCauchy(t, rows, 255-rows)
		}
	}
}

func TestCauchyBeyond(t *testing.T) {
	for rows := -3; rows <= 260; rows++ {
		for _, cols := range []int{257 - rows, 258 - rows, 0, -1, 256, 257, math.MaxInt, math.MinInt} {
			m, e := Cauchy(rows, cols)
			refuses(t, fmt.Sprintf("Cauchy(%d, %d)", rows, cols), m, e, api.ErrShape)
			m, e = Cauchy(cols, rows)
			refuses(t, fmt.Sprintf("Cauchy(%d, %d)", cols, rows), m, e, api.ErrShape)
		}
	}
	for _, a := range ends() {
		for _, b := range append(ends(), 1, 2, 100, 255, 300, 0, -1) {
			m, e := Cauchy(a, b)
			refuses(t, fmt.Sprintf("Cauchy(%d, %d)", a, b), m, e, api.ErrShape)
			m, e = Cauchy(b, a)
			refuses(t, fmt.Sprintf("Cauchy(%d, %d)", b, a), m, e, api.ErrShape)
		}
	}
	// Sums that come out small, by a number below 1 or by wrapping round.
	for _, c := range [][2]int{{300, -100}, {-100, 300}, {256, 0}, {0, 256}, {0, 0}, {-1, -1}, {math.MinInt, math.MinInt}, {math.MaxInt, math.MinInt + 10}, {1 << 62, 1 << 62}, {math.MaxInt, math.MaxInt}, {math.MaxInt, 2}, {2, math.MaxInt}} {
		m, e := Cauchy(c[0], c[1])
		refuses(t, fmt.Sprintf("Cauchy(%d, %d)", c[0], c[1]), m, e, api.ErrShape)
	}
}
