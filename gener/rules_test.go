package gener

import (
	"bytes"
	"fmt"
	"slices"
	"sync"
	"testing"

	"cullet/api"
)

// What holds for all calls: P11.7, P1, P8 and the document's rules.

// input: what the calls are given; each takes its part.
type input struct {
	f             api.Family
	k, m, j       int
	present, want []int
	a             grid
}

// outcome: all that a call answers.
type outcome struct {
	rows  grid
	words []uint16
	list  []int
	e     api.Errno
}

type call struct {
	name string
	run  func(in input) outcome
}

func everyCall() []call {
	return []call{
		{"Parity", func(in input) outcome { rows, e := Parity(in.f, in.k, in.m); return outcome{rows: rows, e: e} }},
		{"Generator", func(in input) outcome { rows, e := Generator(in.f, in.k, in.m); return outcome{rows: rows, e: e} }},
		{"Systematic", func(in input) outcome { rows, e := Systematic(in.a); return outcome{rows: rows, e: e} }},
		{"Words", func(in input) outcome { words, e := Words(in.k, in.m, in.j); return outcome{words: words, e: e} }},
		{"Lost", func(in input) outcome { list, e := Lost(in.k+in.m, in.present); return outcome{list: list, e: e} }},
		{"Decoder", func(in input) outcome {
			rows, e := Decoder(in.f, in.k, in.m, in.present, in.want)
			return outcome{rows: rows, e: e}
		}},
	}
}

// inputs: such as the calls take, and some that they refuse.
func inputs() []input {
	d := dice(30)
	tall := append(d.regular(4), d.mixed(5, 4)...)
	return []input{
		{api.Vander, 2, 1, 0, []int{1, 2}, []int{0}, grid{{1, 0}, {1, 1}, {1, 2}}},
		{api.Cauchy, 2, 1, 0, []int{0, 1, 2}, []int{0, 1, 2}, grid{{2}, {3}}},
		{api.Vander, 5, 4, 3, []int{1, 2, 4, 5, 6, 8}, []int{0, 3, 7, 8}, tall},
		{api.Cauchy, 5, 4, 0, []int{4, 5, 6, 7, 8}, []int{0, 1, 2, 3, 4}, d.regular(6)},
		{api.Vander, 1, 1, 0, []int{0, 1}, []int{1}, grid{{7}}},
		{api.Vander, 3, 2, 1, []int{0, 3, 4}, nil, vandermonde(5, 3)},
		{api.Cauchy, 40, 20, 19, d.some(60, 50), d.some(60, 30), append(d.regular(20), d.mixed(40, 20)...)},
		{api.Vander, 2000, 3, 2, d.some(2003, 1500), nil, grid{{1, 1}, {1, 1}, {0, 1}}},
		{api.Long, 3, 3, 0, []int{0, 1, 2}, []int{3}, grid{{1, 2}}},
		{api.Vander, 3, 3, 3, []int{0, 2, 1}, []int{3}, grid{{1, 2}, {3}}},
		{api.Cauchy, 3, 3, -1, []int{0, 1}, []int{3}, nil},
		{api.Cauchy, 0, 0, 0, nil, nil, grid{{}}},
		{api.Cauchy, 3, 3, 1, []int{0, 1, 2}, []int{3, 3}, grid{{0, 0}, {1, 0}, {0, 1}}},
		{api.Vander, 128, 128, 127, d.some(256, 130), d.some(256, 200), d.mixed(256, 30)},
	}
}

func (in input) copied() input {
	in.present, in.want, in.a = slices.Clone(in.present), slices.Clone(in.want), copies(in.a)
	return in
}

func (in input) equal(other input) bool {
	return slices.Equal(in.present, other.present) && slices.Equal(in.want, other.want) && same(in.a, other.a)
}

func (in input) String() string {
	return fmt.Sprintf("%d, %d, %d, %d, %s, %s, %v", in.f, in.k, in.m, in.j, few(in.present), few(in.want), short(in.a))
}

func (o outcome) equal(other outcome) bool {
	return same(o.rows, other.rows) && slices.Equal(o.words, other.words) && slices.Equal(o.list, other.list) && o.e == other.e
}

func (o outcome) empty() bool { return len(o.rows) == 0 && len(o.words) == 0 && len(o.list) == 0 }

func (o outcome) copied() outcome {
	return outcome{copies(o.rows), slices.Clone(o.words), slices.Clone(o.list), o.e}
}

// spoil writes over all that lists hold, their spare room too.
func spoil[E any](list []E, with E) {
	list = list[:cap(list)]
	for i := range list {
		list[i] = with
	}
}

func spoilRows(rows grid) {
	for _, row := range rows {
		spoil(row, 0xA5)
	}
	spoil(rows, nil)
}

func (o outcome) spoil() {
	spoilRows(o.rows)
	spoil(o.words, 0xA5A5)
	spoil(o.list, -7)
}

func (in input) spoil() {
	spoilRows(in.a)
	spoil(in.present, -7)
	spoil(in.want, -7)
}

// An error stands alone, and is the first one of the call's list.
func TestOrderOfErrors(t *testing.T) {
	unit, nothing := grid{{1}}, []int(nil)
	for _, c := range []struct {
		call string
		in   input
		want api.Errno
	}{
		{"Parity", input{api.Long, 0, 0, 0, nothing, nothing, unit}, api.ErrFamily},
		{"Parity", input{api.Long, 2, 2, 0, nothing, nothing, unit}, api.ErrFamily},
		{"Parity", input{api.Cauchy, 0, 300, 0, nothing, nothing, unit}, api.ErrParams},
		{"Generator", input{-1, 300, 1, 0, nothing, nothing, unit}, api.ErrFamily},
		{"Generator", input{api.Vander, 300, 1, 0, nothing, nothing, unit}, api.ErrParams},
		{"Systematic", input{a: grid{{0, 0}, {0}}}, api.ErrShape},
		{"Systematic", input{a: grid{{0, 0}}}, api.ErrDims},
		{"Systematic", input{a: grid{{0, 0}, {0, 0}}}, api.ErrSingular},
		{"Words", input{k: 0, m: 1, j: -1}, api.ErrParams},
		{"Words", input{k: 1, m: 0, j: 0}, api.ErrParams},
		{"Words", input{k: 65536, m: 1, j: 1}, api.ErrParams},
		{"Words", input{k: 1, m: 1, j: 1}, api.ErrRange},
		{"Lost", input{k: -1, m: 0, present: []int{1, 0}}, api.ErrRange},
		{"Lost", input{k: 65536, m: 1, present: []int{-1}}, api.ErrRange},
		{"Lost", input{k: 65536, m: 0, present: []int{65536}}, api.ErrRow},
		{"Decoder", input{3, 0, 0, 0, []int{-1}, []int{-1}, unit}, api.ErrFamily},
		{"Decoder", input{api.Long, 1, 1, 0, []int{0}, []int{0}, unit}, api.ErrFamily},
		{"Decoder", input{api.Vander, 0, 1, 0, []int{-1}, []int{9}, unit}, api.ErrParams},
		{"Decoder", input{api.Vander, 256, 1, 0, nothing, nothing, unit}, api.ErrParams},
		{"Decoder", input{api.Vander, 3, 1, 0, []int{1, 0}, []int{0}, unit}, api.ErrRow},
		{"Decoder", input{api.Cauchy, 3, 1, 0, []int{1}, []int{4}, unit}, api.ErrRow},
		{"Decoder", input{api.Cauchy, 3, 1, 0, nothing, []int{0, 0}, unit}, api.ErrRow},
		{"Decoder", input{api.Cauchy, 3, 1, 0, []int{0, 1, 2, 3, 4}, nothing, unit}, api.ErrRow},
		{"Decoder", input{api.Cauchy, 3, 1, 0, []int{0, 1}, nothing, unit}, api.ErrTooFew},
	} {
		for _, f := range everyCall() {
			if f.name != c.call {
				continue
			}
			if o := f.run(c.in); o.e != c.want || !o.empty() {
				t.Errorf("%s of %v: %v, want the error %d alone", c.call, c.in, o.e, c.want)
			}
		}
	}
}

func TestNothingBesideAnError(t *testing.T) {
	for _, c := range everyCall() {
		for _, in := range inputs() {
			if o := c.run(in); o.e != api.OK && !o.empty() {
				t.Errorf("%s of %v: the error %d, and more", c.name, in, o.e)
			}
		}
	}
}

// laid: a matrix whose rows lie one behind another in one array, three other bytes about each, so that the spare room of each row is what lies behind it; the list of rows has four more in its spare room. Also the array and the whole list.
func laid(a grid) (m grid, array []byte, list grid) {
	d := dice(31)
	array = d.mixed(1, 3+len(a)*300)[0]
	at := 3
	for _, row := range a {
		copy(array[at:], row)
		list = append(list, array[at:at+len(row)])
		at += len(row) + 3
	}
	list = slices.Concat(list, grid{{1}, {2}, {3}, {4}})
	return list[:len(a)], array, list
}

// sameLists: are these the very same rows, not only alike?
func sameLists(a, b grid) bool {
	return slices.EqualFunc(a, b, func(x, y []byte) bool {
		return len(x) == len(y) && cap(x) == cap(y) && (len(x) == 0 || &x[0] == &y[0])
	})
}

// Nothing that is handed in is changed, its spare room included.
func TestNothingHandedInIsChanged(t *testing.T) {
	for _, c := range everyCall() {
		for _, in := range inputs() {
			want := c.run(in.copied())
			a, array, list := laid(in.a)
			wasArray, wasList := bytes.Clone(array), slices.Clone(list)
			both := slices.Concat(in.present, in.want, []int{-5, -6, -7})
			wasBoth := slices.Clone(both)
			laidOut := in
			laidOut.a, laidOut.present, laidOut.want = a, both[:len(in.present)], both[len(in.present):len(in.present)+len(in.want)]
			if o := c.run(laidOut); !o.equal(want) {
				t.Errorf("%s of %v: another answer where the lists lie in one array", c.name, in)
			}
			if !bytes.Equal(array, wasArray) || !sameLists(list, wasList) {
				t.Errorf("%s of %v has changed the matrix, or what lies behind it", c.name, in)
			}
			if !slices.Equal(both, wasBoth) {
				t.Errorf("%s of %v has changed the numbers, or what lies behind them", c.name, in)
			}
		}
	}
}

// present and want may be one list, and the rows of a matrix too.
func TestOneListTwice(t *testing.T) {
	list := []int{1, 2, 4, 5}
	for _, f := range families() {
		rows, e := Decoder(f, 4, 2, list, list)
		wants(t, "Decoder of one list as both", rows, e, one(4))
		rows, e = Decoder(f, 3, 3, list, list[1:])
		if want, _ := Decoder(f, 3, 3, []int{1, 2, 4, 5}, []int{2, 4, 5}); !same(rows, want) || e != api.OK {
			t.Errorf("Decoder of lists that share memory = %v, %d, want %v", rows, e, want)
		}
	}
	if !slices.Equal(list, []int{1, 2, 4, 5}) {
		t.Errorf("Decoder has changed its list: %v", list)
	}
	array := []byte{1, 2, 4, 8, 3}
	a := grid{array[:2], array[1:3], array[:2], array[2:4], array[3:5], array[3:5]}
	want, we := Systematic(copies(a))
	rows, e := Systematic(a)
	if we != api.ErrSingular || e != we || len(rows) != 0 || len(want) != 0 {
		t.Errorf("Systematic of rows 1 2 and 2 4 = %v, %d", rows, e)
	}
	a[1] = array[3:5]
	want, we = Systematic(copies(a))
	rows, e = Systematic(a)
	if we != api.OK || e != api.OK || !same(rows, want) || !same(timesOf(rows, a[:2]), a) {
		t.Errorf("Systematic of rows that share memory = %v, %d, want %v, %d", rows, e, want, we)
	}
	if !bytes.Equal(array, []byte{1, 2, 4, 8, 3}) {
		t.Errorf("Systematic has changed its rows: %v", array)
	}
}

// What is answered is new memory: written over, neither what was handed in nor another answer is changed; and what was handed in, written over, changes no answer.
func TestAnswersShareNothing(t *testing.T) {
	for _, c := range everyCall() {
		for _, was := range inputs() {
			in := was.copied()
			first, second := c.run(in), c.run(in)
			want := first.copied()
			if !second.equal(want) {
				t.Errorf("%s of %v answers otherwise at the second time", c.name, was)
			}
			first.spoil()
			if !in.equal(was) {
				t.Errorf("%s of %v: the answer shares memory with what was handed in", c.name, was)
			}
			if !second.equal(want) || !c.run(in).equal(want) {
				t.Errorf("%s of %v: two answers share memory", c.name, was)
			}
			in.spoil()
			if !second.equal(want) {
				t.Errorf("%s of %v: the answer hangs on what was handed in", c.name, was)
			}
		}
	}
}

// No two rows of one answer share memory, their spare room included.
func TestRowsOfAnAnswerAreApart(t *testing.T) {
	for _, c := range everyCall() {
		for _, in := range inputs() {
			rows := c.run(in).rows
			for r, row := range rows {
				spoil(row, byte(r))
			}
			for r, row := range rows {
				for _, cell := range row[:cap(row)] {
					if cell != byte(r) {
						t.Fatalf("%s of %v: row %d shares memory with row %d", c.name, in, r, cell)
					}
				}
			}
		}
	}
}

// Nil and empty lists are one, inner lists too.
func TestNilAndEmpty(t *testing.T) {
	empty := []int{}
	for _, c := range everyCall() {
		for _, in := range []input{{f: api.Vander, k: 2, m: 1}, {f: api.Cauchy, k: 0, m: 0}, {f: api.Vander, k: 1, m: 2, present: []int{1}}, {f: api.Cauchy, k: 1, m: 2, want: []int{0}}} {
			other := in.copied()
			if len(other.present) == 0 {
				other.present = empty
			}
			if len(other.want) == 0 {
				other.want = empty
			}
			other.a = grid{}
			if !c.run(in).equal(c.run(other)) {
				t.Errorf("%s of %v tells nil and empty apart", c.name, in)
			}
		}
		if !c.run(input{a: grid{nil, {}}}).equal(c.run(input{a: grid{{}, nil}})) {
			t.Errorf("%s tells nil rows and empty rows apart", c.name)
		}
	}
}

// What a call answers doesn't hang on the calls ahead of it, whether they were refused or not.
func TestNothingIsKept(t *testing.T) {
	var want []outcome
	for _, c := range everyCall() {
		for _, in := range inputs() {
			want = append(want, c.run(in).copied())
		}
	}
	calls := everyCall()
	slices.Reverse(calls)
	for range 2 {
		at := len(want)
		for _, c := range calls {
			list := inputs()
			slices.Reverse(list)
			for _, in := range list {
				at--
				Words(0, 0, 0)
				Generator(api.Cauchy, 7, 9)
				if o := c.run(in); !o.equal(want[at]) {
					t.Errorf("%s of %v answers otherwise behind other calls", c.name, in)
				}
			}
		}
	}
}

// Since nothing is kept and what is handed in is read alone, calls over the same lists may go on at one time.
func TestCallsInCompany(t *testing.T) {
	list := inputs()
	var group sync.WaitGroup
	for _, c := range everyCall() {
		for range 4 {
			group.Go(func() {
				for _, in := range list {
					if o := c.run(in); !o.equal(c.run(in.copied())) {
						t.Errorf("%s in company: another answer", c.name)
					}
				}
			})
		}
	}
	group.Wait()
}
