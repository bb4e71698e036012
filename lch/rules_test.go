package lch

import (
	"fmt"
	"slices"
	"sync"
	"testing"

	"cullet/api"
)

// What holds for all calls: P1, P8 and the document's rules.

// input: what the calls are given; each takes its part.
type input struct {
	i, j int
	x    uint16
	list []uint16
}

// outcome: all that a call answers.
type outcome struct {
	y    uint16
	list []uint16
	e    api.Errno
}

type call struct {
	name string
	run  func(in input) outcome
}

func everyCall() []call {
	word := func(y uint16, e api.Errno) outcome { return outcome{y: y, e: e} }
	words := func(list []uint16, e api.Errno) outcome { return outcome{list: list, e: e} }
	return []call{
		{"Vanish", func(in input) outcome { return word(Vanish(in.i, in.x)) }},
		{"Linear", func(in input) outcome { return words(Linear(in.i)) }},
		{"Skew", func(in input) outcome { return word(Skew(in.i, in.j)) }},
		{"Basis", func(in input) outcome { return word(Basis(in.j, in.x)) }},
		{"Eval", func(in input) outcome { return word(Eval(in.list, in.x)) }},
		{"ToMonomials", func(in input) outcome { return words(ToMonomials(in.list)) }},
		{"FromMonomials", func(in input) outcome { return words(FromMonomials(in.list)) }},
		{"Derivative", func(in input) outcome { return words(Derivative(in.list)) }},
	}
}

// inputs: such as the calls take, and some that they refuse.
func inputs() []input {
	d := dice(40)
	return []input{
		{0, 0, 0, []uint16{7}},
		{1, 1, 1, []uint16{3, 4}},
		{3, 77, 0x1234, d.words(4)},
		{16, 65535, 0xFFFF, d.words(256)},
		{15, 40000, 0x8000, d.words(128)},
		{8, 255, 0xACCA, d.words(64)},
		{7, 256, 9, d.words(65536)},
		{5, 4097, 2, d.words(512)},
		{17, 0, 5, nil},
		{-1, -1, 5, d.words(3)},
		{2, 65536, 5, d.words(255)},
		{-5, 12, 6, d.words(257)},
		{4, -7, 6, d.words(65537)},
		{4, 7, 6, d.words(131072)},
	}
}

func (in input) copied() input {
	in.list = slices.Clone(in.list)
	return in
}

func (in input) String() string { return fmt.Sprintf("%d, %d, %x, %s", in.i, in.j, in.x, few(in.list)) }

func (o outcome) equal(other outcome) bool {
	return o.y == other.y && slices.Equal(o.list, other.list) && o.e == other.e
}

// spoil writes over all that a list holds, its spare room too.
func spoil(list []uint16) {
	list = list[:cap(list)]
	for i := range list {
		list[i] = 0xA5A5
	}
}

// An error stands alone, and is the first one of the call's list.
func TestNothingBesideAnError(t *testing.T) {
	for _, c := range everyCall() {
		for _, in := range inputs() {
			if o := c.run(in); o.e != api.OK && (o.y != 0 || len(o.list) != 0) {
				t.Errorf("%s of %v: the error %d, and more", c.name, in, o.e)
			}
		}
	}
	for _, i := range wrongLevels() {
		for _, j := range wrongIndices() {
			y, e := Skew(i, j)
			refusesWord(t, fmt.Sprintf("Skew(%d, %d)", i, j), y, e, api.ErrRange)
		}
	}
}

// Nothing that is handed in is changed, its spare room included.
func TestNothingHandedInIsChanged(t *testing.T) {
	d := dice(41)
	for _, c := range everyCall() {
		for _, in := range inputs() {
			want := c.run(in.copied())
			array := slices.Concat(d.words(5), in.list, d.words(300))
			was := slices.Clone(array)
			laid := in
			laid.list = array[5 : 5+len(in.list)]
			if o := c.run(laid); !o.equal(want) {
				t.Errorf("%s of %v: another answer where there is spare room", c.name, in)
			}
			if !slices.Equal(array, was) {
				t.Errorf("%s of %v has changed the list, or what lies about it", c.name, in)
			}
		}
	}
}

// What is answered is new memory: written over, neither what was handed in nor another answer is changed; and what was handed in, written over, changes no answer.
func TestAnswersShareNothing(t *testing.T) {
	for _, c := range everyCall() {
		for _, was := range inputs() {
			in := was.copied()
			first, second := c.run(in), c.run(in)
			want := outcome{first.y, slices.Clone(first.list), first.e}
			if !second.equal(want) {
				t.Errorf("%s of %v answers otherwise at the second time", c.name, was)
			}
			spoil(first.list)
			if !slices.Equal(in.list, was.list) {
				t.Errorf("%s of %v: the answer shares memory with what was handed in", c.name, was)
			}
			if !second.equal(want) || !c.run(in).equal(want) {
				t.Errorf("%s of %v: two answers share memory", c.name, was)
			}
			spoil(in.list)
			if !second.equal(want) {
				t.Errorf("%s of %v: the answer hangs on what was handed in", c.name, was)
			}
		}
	}
}

// Nil and empty lists are one.
func TestNilAndEmpty(t *testing.T) {
	for _, c := range everyCall() {
		want := c.run(input{x: 5})
		for _, list := range [][]uint16{{}, make([]uint16, 0, 8), append([]uint16{}, 1, 2, 3)[:0]} {
			if o := c.run(input{x: 5, list: list}); !o.equal(want) {
				t.Errorf("%s tells nil and empty apart", c.name)
			}
		}
	}
}

// What a call answers doesn't hang on the calls ahead of it, whether they were refused or not.
func TestNothingIsKept(t *testing.T) {
	var want []outcome
	calls, list := everyCall(), inputs()
	for _, c := range calls {
		for _, in := range list {
			want = append(want, c.run(in))
		}
	}
	slices.Reverse(calls)
	slices.Reverse(list)
	for range 2 {
		at := len(want)
		for _, c := range calls {
			for _, in := range list {
				at--
				Linear(17)
				ToMonomials([]uint16{1, 2, 3, 4})
				if o := c.run(in); !o.equal(want[at]) {
					t.Errorf("%s of %v answers otherwise behind other calls", c.name, in)
				}
			}
		}
	}
}

// Since nothing is kept and what is handed in is read alone, calls over the same lists may go on at one time.
func TestCallsInCompany(t *testing.T) {
	list := inputs()
	var group sync.WaitGroup
	for _, c := range everyCall() {
		for range 4 {
			group.Go(func() {
				for _, in := range list {
					if o := c.run(in); !o.equal(c.run(in.copied())) {
						t.Errorf("%s in company: another answer", c.name)
					}
				}
			})
		}
	}
	group.Wait()
}
