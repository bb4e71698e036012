package walsh

import (
	"fmt"
	"slices"
	"sync"
	"testing"

	"cullet/api"
)

// What holds for all calls: P1, P8, P15.6 and the document's rules.

// input: what the calls are given; each takes its part.
type input struct {
	a, b []uint16
	lost []int
	r    int
}

// outcome: all that a call answers.
type outcome struct {
	list []uint16
	e    api.Errno
}

type call struct {
	name string
	run  func(in input) outcome
}

func everyCall() []call {
	numbers := func(list []uint16, e api.Errno) outcome { return outcome{list, e} }
	return []call{
		{"Transform", func(in input) outcome { return numbers(Transform(in.a)) }},
		{"Inverse", func(in input) outcome { return numbers(Inverse(in.a)) }},
		{"Convolve", func(in input) outcome { return numbers(Convolve(in.a, in.b)) }},
		{"Logs", func(in input) outcome { return numbers(Logs(in.r)) }},
		{"Locator", func(in input) outcome { return numbers(Locator(in.lost, in.r)) }},
		{"Products", func(in input) outcome { return numbers(Products(in.lost, in.r)) }},
	}
}

// inputs: such as the calls take, and some that they refuse.
func inputs() []input {
	d := dice(30)
	return []input{
		{[]uint16{7}, []uint16{9}, []int{0}, 0},
		{[]uint16{65535}, []uint16{65535}, nil, 0},
		{[]uint16{3, 65535}, []uint16{65535, 4}, []int{1}, 1},
		{d.words(16), d.words(16), []int{3, 4, 9}, 4},
		{d.words(256), d.words(256), d.indices(256, 3), 8},
		{d.words(1024), d.words(1024), upTo(1024), 10},
		{d.words(65536), d.words(65536), d.indices(65536, 4), 16},
		{nil, nil, nil, -1},
		{nil, d.words(2), []int{4}, 17},
		{d.words(2), nil, []int{4}, 2},
		{d.words(3), d.words(3), []int{1, 1}, 2},
		{d.words(3), d.words(4), []int{2, 1}, 2},
		{d.words(4), d.words(3), []int{-1}, 2},
		{d.words(4), d.words(8), []int{0, 1, 2}, 1},
		{d.words(65537), d.words(1), []int{65536}, 16},
		{d.words(131072), d.words(131072), []int{0}, 64},
	}
}

func (in input) copied() input {
	in.a, in.b, in.lost = slices.Clone(in.a), slices.Clone(in.b), slices.Clone(in.lost)
	return in
}

func (in input) equal(other input) bool {
	return slices.Equal(in.a, other.a) && slices.Equal(in.b, other.b) && slices.Equal(in.lost, other.lost) && in.r == other.r
}

func (in input) String() string {
	return fmt.Sprintf("%s, %s, %s, %d", brief(in.a), brief(in.b), brief(in.lost), in.r)
}

func (o outcome) equal(other outcome) bool {
	return slices.Equal(o.list, other.list) && o.e == other.e
}

// spoil writes over all that a list holds, its spare room too.
func spoil[T int | uint16](list []T) {
	list = list[:cap(list)]
	for i := range list {
		list[i] = 0x5A5A
	}
}

// laid: the list amid other numbers; and all of these.
func laid[T int | uint16](list []T) (middle, all []T) {
	all = slices.Concat(slices.Repeat([]T{21}, 5), list, slices.Repeat([]T{22}, 300))
	return all[5 : 5+len(list)], all
}

// An error stands alone; and what is answered without one is a list of numbers that are, but for Products, below 65535.
func TestNothingBesideAnError(t *testing.T) {
	refused := 0
	for _, c := range everyCall() {
		for _, in := range inputs() {
			o := c.run(in)
			if o.e != api.OK {
				refused++
			}
			if o.e != api.OK && len(o.list) != 0 {
				t.Errorf("%s of %v: the error %d, and more", c.name, in, o.e)
			}
			if o.e == api.OK && len(o.list) == 0 {
				t.Errorf("%s of %v: neither an error nor a list", c.name, in)
			}
			if c.name != "Products" && slices.Contains(o.list, 65535) {
				t.Errorf("%s of %v answers 65535", c.name, in)
			}
		}
	}
	if refused < 40 {
		t.Errorf("only %d of the calls were refused", refused)
	}
}

// Nothing that is handed in is changed, its spare room included.
func TestNothingHandedInIsChanged(t *testing.T) {
	for _, c := range everyCall() {
		for _, in := range inputs() {
			want := c.run(in.copied())
			var amid, all input
			amid.a, all.a = laid(in.a)
			amid.b, all.b = laid(in.b)
			amid.lost, all.lost = laid(in.lost)
			amid.r = in.r
			was := all.copied()
			if o := c.run(amid); !o.equal(want) {
				t.Errorf("%s of %v: another answer where there is spare room", c.name, in)
			}
			if !all.equal(was) {
				t.Errorf("%s of %v has changed a list, or what lies about it", c.name, in)
			}
		}
	}
}

// What is answered is new memory: written over, neither what was handed in nor another answer is changed; and what was handed in, written over, changes no answer.
func TestAnswersShareNothing(t *testing.T) {
	for _, c := range everyCall() {
		for _, was := range inputs() {
			in := was.copied()
			first, second := c.run(in), c.run(in)
			want := outcome{slices.Clone(first.list), first.e}
			if !second.equal(want) {
				t.Errorf("%s of %v answers otherwise at the second time", c.name, was)
			}
			spoil(first.list)
			if !in.equal(was) {
				t.Errorf("%s of %v: the answer shares memory with what was handed in", c.name, was)
			}
			if !second.equal(want) || !c.run(in).equal(want) {
				t.Errorf("%s of %v: two answers share memory", c.name, was)
			}
			spoil(in.a)
			spoil(in.b)
			spoil(in.lost)
			if !second.equal(want) {
				t.Errorf("%s of %v: the answer hangs on what was handed in", c.name, was)
			}
		}
	}
}

// Nil and empty lists are one.
func TestNilAndEmpty(t *testing.T) {
	full := []uint16{1, 2}
	for _, c := range everyCall() {
		for _, r := range []int{0, 3, 17} {
			for _, in := range []input{{r: r}, {a: full, r: r}, {b: full, r: r}} {
				empty := in
				if in.a == nil {
					empty.a = full[:0]
				}
				if in.b == nil {
					empty.b = full[:0]
				}
				empty.lost = []int{9, 9}[:0]
				if !c.run(empty).equal(c.run(in)) {
					t.Errorf("%s tells nil and empty apart", c.name)
				}
			}
		}
	}
}

// What a call answers doesn't hang on the calls ahead of it, whether they were refused or not.
func TestNothingIsKept(t *testing.T) {
	var want []outcome
	calls, list := everyCall(), inputs()
	for _, c := range calls {
		for _, in := range list {
			want = append(want, c.run(in))
		}
	}
	slices.Reverse(calls)
	slices.Reverse(list)
	for range 2 {
		at := len(want)
		for _, c := range calls {
			for _, in := range list {
				at--
				Locator([]int{1, 2}, 3)
				Transform([]uint16{1, 2, 3})
				if o := c.run(in); !o.equal(want[at]) {
					t.Errorf("%s of %v answers otherwise behind other calls", c.name, in)
				}
			}
		}
	}
}

// Since nothing is kept and lists are read alone, calls over the same lists may go on at one time.
func TestCallsInCompany(t *testing.T) {
	list := inputs()
	var group sync.WaitGroup
	for _, c := range everyCall() {
		for range 2 {
			group.Go(func() {
				for _, in := range list {
					if o := c.run(in); !o.equal(c.run(in.copied())) {
						t.Errorf("%s in company: another answer", c.name)
					}
				}
			})
		}
	}
	group.Wait()
}
