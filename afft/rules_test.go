package afft

import (
	"fmt"
	"slices"
	"sync"
	"testing"

	"cullet/api"
)

// What holds for all calls: P1, P8, P14.6 and the document's rules.

// input: what the calls are given; each takes its part.
type input struct {
	list     []uint16
	n        int
	from, to int
}

// outcome: all that a call answers.
type outcome struct {
	list []uint16
	e    api.Errno
}

type call struct {
	name string
	run  func(in input) outcome
}

// everyCall: those over rows are given rows of one word, in memory of their own, and what becomes of them is the answer.
func everyCall() []call {
	words := func(list []uint16, e api.Errno) outcome { return outcome{list, e} }
	inRows := func(in input, run func(rows [][]uint16, shift int) api.Errno) outcome {
		var rows [][]uint16
		for _, w := range in.list {
			rows = append(rows, []uint16{w})
		}
		if e := run(rows, in.from); e != api.OK {
			return outcome{nil, e}
		}
		return outcome{column(rows, 0), api.OK}
	}
	return []call{
		{"Forward", func(in input) outcome { return words(Forward(in.list, in.from)) }},
		{"Inverse", func(in input) outcome { return words(Inverse(in.list, in.from)) }},
		{"Extend", func(in input) outcome { return words(Extend(in.list, in.from, in.to)) }},
		{"Fold", func(in input) outcome { return words(Fold(in.list, in.n, in.from)) }},
		{"ForwardRows", func(in input) outcome { return inRows(in, ForwardRows) }},
		{"InverseRows", func(in input) outcome { return inRows(in, InverseRows) }},
	}
}

// inputs: such as the calls take, and some that they refuse.
func inputs() []input {
	d := dice(30)
	return []input{
		{[]uint16{7}, 1, 9, 65535},
		{[]uint16{3, 4}, 1, 2, 0},
		{[]uint16{3, 4}, 2, 65534, 6},
		{d.words(16), 4, 32, 32},
		{d.words(64), 16, 4096, 0},
		{d.words(256), 256, 256, 32768},
		{d.words(1024), 1, 0, 1024},
		{d.words(4096), 2048, 61440, 0},
		{d.words(65536), 32, 0, 0},
		{nil, 2, 0, 0},
		{nil, 3, 1, -1},
		{d.words(3), 1, 0, 0},
		{d.words(3), 3, 0, 0},
		{d.words(96), 32, 32, 32},
		{d.words(8), 3, 4, 0},
		{d.words(8), 8, 0, 4},
		{d.words(8), 16, -8, 0},
		{d.words(8), -8, 65536, 0},
		{d.words(65537), 1, 0, 0},
		{d.words(131072), 65536, 0, 0},
	}
}

func (in input) copied() input {
	in.list = slices.Clone(in.list)
	return in
}

func (in input) String() string {
	return fmt.Sprintf("%s, %d, %d, %d", brief(in.list), in.n, in.from, in.to)
}

func (o outcome) equal(other outcome) bool {
	return slices.Equal(o.list, other.list) && o.e == other.e
}

// spoil writes over all that a list holds, its spare room too.
func spoil(list []uint16) {
	list = list[:cap(list)]
	for i := range list {
		list[i] = 0xA5A5
	}
}

// An error stands alone.
func TestNothingBesideAnError(t *testing.T) {
	refused := 0
	for _, c := range everyCall() {
		for _, in := range inputs() {
			o := c.run(in)
			if o.e != api.OK && len(o.list) != 0 {
				t.Errorf("%s of %v: the error %d, and more", c.name, in, o.e)
			}
			if o.e != api.OK {
				refused++
			}
		}
	}
	if refused < 40 {
		t.Errorf("only %d of the calls were refused", refused)
	}
}

// Nothing that is handed in is changed, its spare room included.
func TestNothingHandedInIsChanged(t *testing.T) {
	d := dice(31)
	for _, c := range everyCall() {
		for _, in := range inputs() {
			want := c.run(in.copied())
			array := slices.Concat(d.words(5), in.list, d.words(300))
			was := slices.Clone(array)
			laid := in
			laid.list = array[5 : 5+len(in.list)]
			if o := c.run(laid); !o.equal(want) {
				t.Errorf("%s of %v: another answer where there is spare room", c.name, in)
			}
			if !slices.Equal(array, was) {
				t.Errorf("%s of %v has changed the list, or what lies about it", c.name, in)
			}
		}
	}
}

// What is answered is new memory: written over, neither what was handed in nor another answer is changed; and what was handed in, written over, changes no answer.
func TestAnswersShareNothing(t *testing.T) {
	for _, c := range everyCall() {
		for _, was := range inputs() {
			in := was.copied()
			first, second := c.run(in), c.run(in)
			want := outcome{slices.Clone(first.list), first.e}
			if !second.equal(want) {
				t.Errorf("%s of %v answers otherwise at the second time", c.name, was)
			}
			spoil(first.list)
			if !slices.Equal(in.list, was.list) {
				t.Errorf("%s of %v: the answer shares memory with what was handed in", c.name, was)
			}
			if !second.equal(want) || !c.run(in).equal(want) {
				t.Errorf("%s of %v: two answers share memory", c.name, was)
			}
			spoil(in.list)
			if !second.equal(want) {
				t.Errorf("%s of %v: the answer hangs on what was handed in", c.name, was)
			}
		}
	}
}

// Nil and empty lists are one, of rows too.
func TestNilAndEmpty(t *testing.T) {
	for _, c := range everyCall() {
		for _, n := range []int{1, 3} {
			want := c.run(input{n: n})
			for _, list := range [][]uint16{{}, make([]uint16, 0, 8), []uint16{1, 2, 3}[:0]} {
				if o := c.run(input{list: list, n: n}); !o.equal(want) {
					t.Errorf("%s tells nil and empty apart", c.name)
				}
			}
		}
	}
	for _, c := range rowsCalls() {
		for _, shift := range []int{0, 1} {
			if e, f := c.run(nil, shift), c.run([][]uint16{}, shift); e != f {
				t.Errorf("%s tells no rows apart: %d, %d", c.name, e, f)
			}
			if e, f := c.run([][]uint16{nil, {}}, shift), c.run([][]uint16{{}, {}}, shift); e != f {
				t.Errorf("%s tells rows without words apart: %d, %d", c.name, e, f)
			}
		}
	}
}

// What a call answers doesn't hang on the calls ahead of it, whether they were refused or not.
func TestNothingIsKept(t *testing.T) {
	var want []outcome
	calls, list := everyCall(), inputs()
	for _, c := range calls {
		for _, in := range list {
			want = append(want, c.run(in))
		}
	}
	slices.Reverse(calls)
	slices.Reverse(list)
	for range 2 {
		at := len(want)
		for _, c := range calls {
			for _, in := range list {
				at--
				Forward([]uint16{1, 2, 3, 4}, 8)
				Inverse([]uint16{1, 2, 3}, 0)
				if o := c.run(in); !o.equal(want[at]) {
					t.Errorf("%s of %v answers otherwise behind other calls", c.name, in)
				}
			}
		}
	}
}

// Since nothing is kept and lists are read alone, calls over the same lists may go on at one time; so may those over rows that lie beside one another.
func TestCallsInCompany(t *testing.T) {
	list := inputs()
	var group sync.WaitGroup
	for _, c := range everyCall() {
		for range 2 {
			group.Go(func() {
				for _, in := range list {
					if o := c.run(in); !o.equal(c.run(in.copied())) {
						t.Errorf("%s in company: another answer", c.name)
					}
				}
			})
		}
	}
	d := dice(32)
	for _, c := range rowsCalls() {
		array := d.words(32 * 40)
		for from := 0; from < 40; from += 20 {
			rows := make([][]uint16, 32)
			for i := range rows {
				rows[i] = array[i*40+from:][:20]
			}
			want := cloned(rows)
			c.run(want, 64)
			group.Go(func() {
				e := c.run(rows, 64)
				wantsRows(t, c.name+" in company", rows, e, want)
			})
		}
	}
	group.Wait()
}
