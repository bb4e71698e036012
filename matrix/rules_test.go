package matrix

import (
	"bytes"
	"fmt"
	"slices"
	"sync"
	"testing"

	"cullet/api"
)

// What holds for all calls: P1, P8, the document's rules, and the chapter's sections 'Types' and 'Errors'.

// ErrShape is ahead of every other error, whichever matrix has no form, and stands alone.
func TestErrShapeIsAheadOfAll(t *testing.T) {
	d := dice(60)
	formed := []grid{{{1}}, {{0}}, {{1, 2}}, {{1}, {2}}, {{1, 1}, {1, 1}}, {{0, 0}, {0, 0}}, one(3), d.mixed(256, 512, 0), blank(256, 256)}
	none := formless()
	for _, c := range everyCall() {
		for i, a := range none {
			for j, b := range slices.Concat(none, formed) {
				if o := c.run(a, b); o.e != api.ErrShape || !o.empty() {
					t.Errorf("%s of the formless matrix %d, the other %d: %v, %d", c.name, i, j, short(o.m), o.e)
				}
			}
			if !c.two {
				continue
			}
			for j, b := range formed {
				if o := c.run(b, a); o.e != api.ErrShape || !o.empty() {
					t.Errorf("%s of the matrix %d and the formless one %d: %v, %d", c.name, j, i, short(o.m), o.e)
				}
			}
		}
	}
}

// The numbers beside a formless matrix don't matter, nor do those that are right.
func TestErrShapeIsAheadOfErrRange(t *testing.T) {
	for _, a := range formless() {
		for _, n := range append(ends(), -1, 0, 1, 2, 256, 257) {
			m, e := Sub(a, n, n, n, n)
			refuses(t, fmt.Sprintf("Sub of no matrix at %d", n), m, e, api.ErrShape)
			m, e = Sub(a, 0, n, 0, n)
			refuses(t, fmt.Sprintf("Sub of no matrix up to %d", n), m, e, api.ErrShape)
			m, e = Pick(a, []int{n})
			refuses(t, fmt.Sprintf("Pick of no matrix at %d", n), m, e, api.ErrShape)
		}
		m, e := Pick(a, nil)
		refuses(t, "Pick of no matrix and no number", m, e, api.ErrShape)
		m, e = Pick(a, make([]int, 257))
		refuses(t, "Pick of no matrix and 257 numbers", m, e, api.ErrShape)
	}
}

func TestOrderOfErrors(t *testing.T) {
	long := blank(1, 513)
	for _, c := range []struct {
		call string
		a, b grid
		want api.Errno
	}{
		{"Mul", grid{{1, 2}}, nil, api.ErrShape}, {"Mul", nil, grid{{1, 2}}, api.ErrShape}, {"Mul", grid{{1, 2}}, grid{{1}, {1, 2}, {1}}, api.ErrShape}, {"Mul", grid{{1, 2}}, long, api.ErrShape}, {"Mul", long, grid{{1}}, api.ErrShape},
		{"Mul", grid{{1, 2}}, grid{{1}}, api.ErrDims},
		{"Transpose", blank(1, 257), nil, api.ErrShape},
		{"Augment", grid{{1}}, grid{{1}, {2}, nil}, api.ErrShape}, {"Augment", grid{{1}, {2}, {}}, grid{{1}}, api.ErrShape}, {"Augment", blank(1, 512), long, api.ErrShape}, {"Augment", long, blank(2, 512), api.ErrShape},
		{"Augment", blank(1, 512), blank(2, 512), api.ErrDims},
		{"Det", grid{{0, 0}}, nil, api.ErrDims}, {"Det", grid{{0, 0}, {0}}, nil, api.ErrShape},
		{"Invert", grid{{0, 0}}, nil, api.ErrDims}, {"Invert", grid{{0}, {0}}, nil, api.ErrDims}, {"Invert", grid{{0, 0}, {0}}, nil, api.ErrShape}, {"Invert", grid{{0}}, nil, api.ErrSingular},
		{"Solve", grid{{0}}, nil, api.ErrShape}, {"Solve", grid{{1, 2}}, grid{{}}, api.ErrShape}, {"Solve", grid{{0, 0}}, grid{nil, nil}, api.ErrShape}, {"Solve", grid{{0}, nil}, grid{{1}}, api.ErrShape}, {"Solve", grid{{0}}, long, api.ErrShape},
		{"Solve", grid{{0, 0}}, grid{{1}}, api.ErrDims}, {"Solve", grid{{0}}, grid{{1}, {2}}, api.ErrDims}, {"Solve", grid{{0}, {0}}, grid{{0}, {0}}, api.ErrDims}, {"Solve", grid{{0, 0}, {0, 0}}, grid{{1}}, api.ErrDims},
		{"Solve", grid{{0}}, grid{{1}}, api.ErrSingular}, {"Solve", grid{{1, 1}, {1, 1}}, grid{{0}, {0}}, api.ErrSingular},
	} {
		for _, f := range everyCall() {
			if f.name != c.call {
				continue
			}
			if o := f.run(c.a, c.b); o.e != c.want || !o.empty() {
				t.Errorf("%s of %x and %x: %v, want the error %d alone", c.call, short(c.a), short(c.b), o.e, c.want)
			}
		}
	}
}

// pairs: matrices that each call takes, and some that it refuses, the second in the place of b.
func pairs() [][2]grid {
	d := dice(61)
	return [][2]grid{
		{d.square(3, 3), d.mixed(3, 3, 1)}, {d.square(4, 4), d.mixed(4, 6, 1)}, {d.square(4, 2), d.mixed(4, 2, 1)},
		{d.mixed(2, 5, 2), d.mixed(5, 3, 2)}, {d.mixed(5, 2, 2), d.mixed(5, 3, 2)}, {d.mixed(3, 7, 2), d.mixed(3, 2, 2)},
		{{{5}}, {{6}}}, {{{0}}, {{0}}}, {{{1, 2, 3}}, {{4, 5}}}, {{{1}, {2}, {3}}, {{4}, {5}, {6}}}, {blank(3, 4), blank(4, 3)},
		{one(4), one(4)}, {d.mixed(2, 3, 0), {{1}, {2, 3}}}, {{{1, 2}, {3}}, d.mixed(2, 3, 0)}, {d.square(40, 40), d.mixed(40, 472, 0)},
	}
}

// laid: a matrix whose rows lie one behind another in one array, three other bytes about each, so that the spare room of each row is what lies behind it; the list of rows has four more in its spare room. Also the array and the whole list.
func laid(a grid) (m grid, array []byte, list grid) {
	d := dice(62)
	array = d.mixed(1, 3+len(a)*515, 0)[0]
	at := 3
	for _, row := range a {
		copy(array[at:], row)
		list = append(list, array[at:at+len(row)])
		at += len(row) + 3
	}
	list = slices.Concat(list, grid{{1}, {2}, {3}, {4}})
	return list[:len(a)], array, list
}

// sameLists: do both lists have the same slices, each at the same address?
func sameLists(a, b grid) bool {
	return slices.EqualFunc(a, b, func(x, y []byte) bool {
		return len(x) == len(y) && cap(x) == cap(y) && (len(x) == 0 || &x[0] == &y[0])
	})
}

// Nothing that is handed in is changed, its spare room included, in the rows and in the list of rows.
func TestNothingHandedInIsChanged(t *testing.T) {
	for _, c := range everyCall() {
		for _, p := range pairs() {
			want := c.run(copies(p[0]), copies(p[1]))
			a, arrayA, listA := laid(p[0])
			b, arrayB, listB := laid(p[1])
			wasA, wasB, rowsA, rowsB := bytes.Clone(arrayA), bytes.Clone(arrayB), slices.Clone(listA), slices.Clone(listB)
			if o := c.run(a, b); !o.equal(want) {
				t.Errorf("%s of %x and %x: another answer where the rows lie in one array", c.name, short(a), short(b))
			}
			if !bytes.Equal(arrayA, wasA) || !bytes.Equal(arrayB, wasB) {
				t.Errorf("%s of %x and %x has changed a row, or what lies behind it", c.name, short(p[0]), short(p[1]))
			}
			if !sameLists(listA, rowsA) || !sameLists(listB, rowsB) {
				t.Errorf("%s of %x and %x has changed a list of rows, or what lies behind it", c.name, short(p[0]), short(p[1]))
			}
		}
	}
}

func TestPickChangesNoNumbers(t *testing.T) {
	d := dice(63)
	a := d.mixed(4, 3, 0)
	numbers := []int{3, 1, 1, 0, 99, 98}
	m, e := Pick(a, numbers[:4])
	wants(t, "Pick of numbers with more behind them", m, e, grid{a[3], a[1], a[1], a[0]})
	Pick(a, numbers)
	if !slices.Equal(numbers, []int{3, 1, 1, 0, 99, 98}) {
		t.Errorf("Pick has changed its numbers: %v", numbers)
	}
	numbers[0] = 2
	if !same(m, grid{a[3], a[1], a[1], a[0]}) {
		t.Error("an answer of Pick hangs on the numbers that it was given")
	}
}

// spoil writes over all that an answer holds, spare room too.
func (o outcome) spoil() {
	for _, row := range o.m {
		row = row[:cap(row)]
		for i := range row {
			row[i] ^= 0xFF
		}
	}
	list := o.m[:cap(o.m)]
	for i := range list {
		list[i] = nil
	}
	pivots := o.pivots[:cap(o.pivots)]
	for i := range pivots {
		pivots[i] = -7
	}
}

// What is answered is new memory: written over, neither what was handed in nor another answer is changed; and what was handed in, written over, changes no answer.
func TestAnswersShareNothing(t *testing.T) {
	for _, c := range everyCall() {
		for _, p := range pairs() {
			a, b := copies(p[0]), copies(p[1])
			first, second := c.run(a, b), c.run(a, b)
			want := first.copied()
			if !second.equal(want) {
				t.Errorf("%s of %x and %x answers otherwise at the second time", c.name, short(a), short(b))
			}
			first.spoil()
			if !same(a, p[0]) || !same(b, p[1]) {
				t.Errorf("%s of %x and %x: the answer shares memory with what was handed in", c.name, short(p[0]), short(p[1]))
			}
			if !second.equal(want) || !c.run(a, b).equal(want) {
				t.Errorf("%s of %x and %x: two answers share memory", c.name, short(p[0]), short(p[1]))
			}
			outcome{m: a}.spoil()
			outcome{m: b}.spoil()
			if !second.equal(want) {
				t.Errorf("%s of %x and %x: the answer hangs on what was handed in", c.name, short(p[0]), short(p[1]))
			}
		}
	}
}

// wantApart: each list is written over with a number of its own, spare room too, and none has another's.
func wantApart(t *testing.T, what string, m grid) {
	t.Helper()
	for r, row := range m {
		row = row[:cap(row)]
		for i := range row {
			row[i] = byte(r)
		}
	}
	for r, row := range m {
		for _, cell := range row[:cap(row)] {
			if cell != byte(r) {
				t.Fatalf("%s: row %d shares memory with row %d", what, r, cell)
			}
		}
	}
}

// No two rows of one answer share memory.
func TestRowsOfAnAnswerAreApart(t *testing.T) {
	for _, c := range everyCall() {
		for _, p := range pairs() {
			wantApart(t, c.name, c.run(p[0], p[1]).m)
		}
	}
	d := dice(64)
	row := []byte{1, 2, 3}
	m, _ := Pick(grid{row}, make([]int, 256))
	wantApart(t, "Pick of one row 256 times", m)
	m, _ = Sub(slices.Repeat(grid{row}, 5), 1, 5, 1, 3)
	wantApart(t, "Sub of rows that are one list", m)
	m, _ = Null(d.mixed(1, 200, 0))
	wantApart(t, "Null of one row", m)
	m, _ = Augment(d.mixed(256, 256, 0), d.mixed(256, 256, 0))
	wantApart(t, "Augment of the greatest", m)
	if !bytes.Equal(row, []byte{1, 2, 3}) {
		t.Error("a row that was handed in shares memory with an answer")
	}
}

func TestMakersAnswerNewMemory(t *testing.T) {
	for name, run := range map[string]func() (grid, api.Errno){
		"Identity":    func() (grid, api.Errno) { return Identity(5) },
		"Vandermonde": func() (grid, api.Errno) { return Vandermonde(4, 6) },
		"Cauchy":      func() (grid, api.Errno) { return Cauchy(4, 6) },
	} {
		first, _ := run()
		second, _ := run()
		want := copies(first)
		wantApart(t, name, first)
		outcome{m: first}.spoil()
		if third, e := run(); e != api.OK || !same(second, want) || !same(third, want) {
			t.Errorf("%s: what one answer holds is another's too", name)
		}
	}
}

// Rows may be one and the same list, lie over one another, or be those of both matrices.
func TestSharedRows(t *testing.T) {
	d := dice(65)
	array := d.mixed(1, 40, 1)[0]
	was := bytes.Clone(array)
	var stairs grid
	for r := range 5 {
		stairs = append(stairs, array[r:r+5])
	}
	row := array[:3]
	alike := grid{row, row, row}
	parts := grid{array[:3], array[:3], array[1:4]}
	for _, c := range everyCall() {
		for _, p := range [][2]grid{{stairs, stairs}, {alike, alike}, {parts, alike}, {alike, parts}, {{row}, {row}}, {stairs, {array[:2], array[:2], array[5:7], array[5:7], array[1:3]}}} {
			want := c.run(copies(p[0]), copies(p[1]))
			if o := c.run(p[0], p[1]); !o.equal(want) {
				t.Errorf("%s of rows that share memory: %x, %d, want %x, %d", c.name, o.m, o.e, want.m, want.e)
			}
			if !bytes.Equal(array, was) {
				t.Fatalf("%s of rows that share memory has changed them", c.name)
			}
		}
	}
}

// What a call answers doesn't hang on the calls ahead of it, whether they were refused or not.
func TestNothingIsKept(t *testing.T) {
	var want []outcome
	for _, c := range everyCall() {
		for _, p := range pairs() {
			want = append(want, c.run(p[0], p[1]).copied())
		}
	}
	calls := everyCall()
	slices.Reverse(calls)
	for range 2 {
		at := len(want)
		for _, c := range calls {
			list := pairs()
			slices.Reverse(list)
			for _, p := range list {
				at--
				Invert(nil)
				Vandermonde(7, 9)
				if o := c.run(p[0], p[1]); !o.equal(want[at]) {
					t.Errorf("%s of %x and %x answers otherwise behind other calls", c.name, short(p[0]), short(p[1]))
				}
			}
		}
	}
}

// Since nothing is kept and what is handed in is read alone, calls over the same matrices may go on at one time.
func TestCallsInCompany(t *testing.T) {
	list := pairs()
	var group sync.WaitGroup
	for _, c := range everyCall() {
		for range 4 {
			group.Go(func() {
				for _, p := range list {
					if o := c.run(p[0], p[1]); !o.equal(c.run(copies(p[0]), copies(p[1]))) {
						t.Errorf("%s in company: another answer", c.name)
					}
				}
			})
		}
	}
	group.Wait()
}

// The greatest matrices that have form, in every call that takes them.
func TestCallsAtTheLimits(t *testing.T) {
	d := dice(66)
	wide, square := d.mixed(256, 512, 1), d.square(256, 256)
	refused := map[string]api.Errno{"Mul": api.ErrDims, "Transpose": api.ErrShape, "Augment": api.ErrDims, "Det": api.ErrDims, "Invert": api.ErrDims, "Solve": api.ErrDims, "Sub of nothing": api.ErrRange, "Sub of wrong numbers": api.ErrRange, "Pick of none": api.ErrRange, "Pick of a wrong one": api.ErrRange}
	for _, c := range everyCall() {
		if o := c.run(wide, wide); o.e != refused[c.name] {
			t.Errorf("%s of 256 rows of 512: %d", c.name, o.e)
		}
		want := refused[c.name]
		if want != api.ErrRange {
			want = api.OK
		}
		if o := c.run(square, copies(square)); o.e != want {
			t.Errorf("%s of 256 rows of 256: %d", c.name, o.e)
		}
	}
}
