package afft

import (
	"fmt"
	"slices"
	"testing"

	"cullet/api"
)

// P14.3

// rowsCall: ForwardRows or InverseRows.
type rowsCall struct {
	name string
	run  func(rows [][]uint16, shift int) api.Errno
}

func rowsCalls() []rowsCall {
	return []rowsCall{{"ForwardRows", ForwardRows}, {"InverseRows", InverseRows}}
}

// valueRows: the values of every column.
func valueRows(rows [][]uint16, shift int) [][]uint16 {
	want := cloned(rows)
	for c := range rows[0] {
		for i, y := range long.values(column(rows, c), shift) {
			want[i][c] = y
		}
	}
	return want
}

// bothWaysInRows: ForwardRows makes v of d, and InverseRows d of v, each in its place.
func bothWaysInRows(t *testing.T, d [][]uint16, shift int, v [][]uint16) {
	t.Helper()
	what := fmt.Sprintf("of %d rows of %d words at %d", len(d), len(d[0]), shift)
	rows := cloned(d)
	e := ForwardRows(rows, shift)
	wantsRows(t, "ForwardRows "+what, rows, e, v)
	rows = cloned(v)
	e = InverseRows(rows, shift)
	wantsRows(t, "InverseRows "+what, rows, e, d)
}

func TestRowsExamples(t *testing.T) {
	bothWaysInRows(t, [][]uint16{{7, 5}, {1, 0}}, 0, [][]uint16{{7, 5}, {6, 5}})
	for _, c := range rowsCalls() {
		if e := c.run([][]uint16{{7, 5}, {1}}, 0); e != api.ErrLens {
			t.Errorf("%s of rows of 2 and 1 words: %d", c.name, e)
		}
		if e := c.run([][]uint16{{}, {}}, 0); e != api.OK {
			t.Errorf("%s of two rows without words: %d", c.name, e)
		}
	}
}

func TestRowsOfEveryNumber(t *testing.T) {
	d := dice(20)
	for _, n := range powersOfTwo(1, 64) {
		for _, width := range []int{0, 1, 2, 3, 5, 8, 15, 16, 17, 33} {
			for _, shift := range beginnings(n) {
				rows := d.rows(n, width)
				bothWaysInRows(t, rows, shift, valueRows(rows, shift))
			}
		}
	}
	rows := d.rows(256, 9)
	bothWaysInRows(t, rows, 1024, valueRows(rows, 1024))
	rows = d.rows(4, 3000)
	bothWaysInRows(t, rows, 65532, valueRows(rows, 65532))
}

// Each column becomes what Forward and Inverse answer of it.
func TestColumnsAsLists(t *testing.T) {
	d := dice(21)
	for _, n := range powersOfTwo(1, 65536) {
		width := max(1, min(40, 131072/n))
		shift := beginnings(n)[len(beginnings(n))-1]
		was := d.rows(n, width)
		forth, back := cloned(was), cloned(was)
		if e, f := ForwardRows(forth, shift), InverseRows(back, shift); e != api.OK || f != api.OK {
			t.Fatalf("%d rows at %d: %d, %d", n, shift, e, f)
		}
		for c := range width {
			list, e := Forward(column(was, c), shift)
			wants(t, fmt.Sprintf("Forward of column %d of %d rows", c, n), column(forth, c), e, list)
			list, e = Inverse(column(was, c), shift)
			wants(t, fmt.Sprintf("Inverse of column %d of %d rows", c, n), column(back, c), e, list)
		}
	}
}

func TestRowsWithoutWords(t *testing.T) {
	for _, c := range rowsCalls() {
		for _, n := range powersOfTwo(1, 65536) {
			rows := make([][]uint16, n)
			rows[n-1] = make([]uint16, 0, 4)
			if e := c.run(rows, 65536-n); e != api.OK {
				t.Errorf("%s of %d rows without words: %d", c.name, n, e)
			}
			if e := c.run(rows, 65536); e != api.ErrCoset {
				t.Errorf("%s of %d rows without words at 65536: %d", c.name, n, e)
			}
		}
	}
}

// refusesRows: that error, and nothing is changed.
func refusesRows(t *testing.T, c rowsCall, rows [][]uint16, shift int, want api.Errno) {
	t.Helper()
	was := cloned(rows)
	if e := c.run(rows, shift); e != want {
		t.Errorf("%s of %d rows at %d: %d, want %d", c.name, len(rows), shift, e, want)
	}
	if !sameRows(rows, was) {
		t.Errorf("%s of %d rows at %d: an error, and the rows are changed", c.name, len(rows), shift)
	}
}

func TestWrongNumberOfRows(t *testing.T) {
	d := dice(22)
	for _, c := range rowsCalls() {
		refusesRows(t, c, nil, 0, api.ErrPower)
		for _, n := range wrongLengths() {
			rows := make([][]uint16, n)
			for i := range min(n, 100) {
				rows[i] = d.words(2)
			}
			for _, shift := range []int{0, -1} {
				refusesRows(t, c, rows, shift, api.ErrPower)
			}
			if n > 0 {
				rows[n-1] = nil
				refusesRows(t, c, rows, 0, api.ErrPower)
			}
		}
	}
}

func TestRowsOfUnlikeLengths(t *testing.T) {
	d := dice(23)
	for _, c := range rowsCalls() {
		for _, n := range powersOfTwo(2, 32) {
			for at := range n {
				for _, length := range []int{0, 1, 3, 5, 8} {
					rows := d.rows(n, 4)
					rows[at] = d.words(length)
					for _, shift := range []int{0, 1, -n, 65536} {
						refusesRows(t, c, rows, shift, api.ErrLens)
					}
				}
			}
		}
		rows := make([][]uint16, 65536)
		rows[65535] = []uint16{1}
		refusesRows(t, c, rows, 0, api.ErrLens)
	}
}

func TestRowsOnNoCoset(t *testing.T) {
	d := dice(24)
	for _, c := range rowsCalls() {
		for _, n := range powersOfTwo(1, 1024) {
			rows := d.rows(n, 3)
			for _, shift := range wrongBeginnings(n) {
				refusesRows(t, c, rows, shift, api.ErrCoset)
			}
		}
		rows := d.rows(65536, 1)
		for _, shift := range []int{-65536, 1, 32768, 65536} {
			refusesRows(t, c, rows, shift, api.ErrCoset)
		}
	}
}

// The rows lie in one array, with words between them; the list of rows has rows behind its length. All of that stays.
func TestNothingAboutTheRowsIsChanged(t *testing.T) {
	d := dice(25)
	for _, c := range rowsCalls() {
		for _, n := range powersOfTwo(1, 64) {
			for _, width := range []int{0, 1, 4, 20} {
				array := d.words((n + 2) * (width + 3))
				was := slices.Clone(array)
				all := make([][]uint16, n+2)
				for i := range all {
					all[i] = array[i*(width+3):][:width]
				}
				want := cloned(all[:n])
				if e, f := c.run(all[:n], 64), c.run(want, 64); e != api.OK || f != api.OK {
					t.Fatalf("%s of %d rows: %d, %d", c.name, n, e, f)
				}
				for i := range all {
					at := i * (width + 3)
					if len(all[i]) != width || cap(all[i]) != cap(array[at:]) || width > 0 && &all[i][0] != &array[at] {
						t.Fatalf("%s of %d rows of %d words: the list of rows has changed at %d", c.name, n, width, i)
					}
					if i < n {
						copy(was[at:at+width], want[i])
					}
				}
				if !slices.Equal(array, was) {
					t.Errorf("%s of %d rows of %d words: other words than theirs have changed", c.name, n, width)
				}
			}
		}
	}
}

// Of rows that share memory nothing is promised but that the call ends.
func TestRowsThatShareMemory(t *testing.T) {
	d := dice(26)
	for _, c := range rowsCalls() {
		for _, n := range powersOfTwo(2, 256) {
			array := d.words(2 * n)
			same, shifted := make([][]uint16, n), make([][]uint16, n)
			for i := range same {
				same[i], shifted[i] = array[:n], array[i:i+n]
			}
			if e, f := c.run(same, 0), c.run(shifted, 0); e != api.OK || f != api.OK {
				t.Errorf("%s of %d rows that share memory: %d, %d", c.name, n, e, f)
			}
		}
	}
}
