package pipes

import (
	"bytes"
	"errors"
	"slices"
	"testing"

	"cullet/api"
)

// What the tests hold the package against: models that follow the chapter's words step by step.

// model is a source as P22.2 has it; a failure is told by the word "failure".
type model struct {
	data  []byte
	plan  api.ReadPlan
	place int
	turns int
}

// read: the bytes that a read of so many gives, and how it ends: "", "failure" or "end".
func (m *model) read(length int) (given []byte, ends string) {
	if length == 0 {
		return nil, ""
	}
	if m.plan.FailAt >= 0 && m.place == m.plan.FailAt {
		return nil, "failure"
	}
	if m.place == len(m.data) {
		return nil, "end"
	}
	limits := []int{length, len(m.data) - m.place}
	if m.plan.FailAt >= 0 {
		limits = append(limits, m.plan.FailAt-m.place)
	}
	if n := len(m.plan.Chunks); n > 0 {
		limits = append(limits, m.plan.Chunks[m.turns%n])
	}
	m.turns++
	may := slices.Min(limits)
	if may <= 0 {
		return nil, ""
	}
	given = m.data[m.place : m.place+may]
	m.place += may
	return given, ""
}

// errorOf: the error that a model's word stands for, of a source or sink with this failure.
func errorOf(ends string, failure error) error {
	switch ends {
	case "failure":
		return failure
	case "end":
		return End
	}
	return nil
}

// step is what a foreign reader or writer answers at one asking.
type step struct {
	n      int
	err    error
	panics bool
}

// foreign answers its steps one after the other, the last one again and again. It notes what it was handed.
type foreign struct {
	steps   []step
	asked   int
	lengths []int
	heads   []*byte // where what it was handed begins
	written []byte  // of the numbers that it answered, as far as there were bytes
}

func (f *foreign) next(p []byte) step {
	s := f.steps[min(f.asked, len(f.steps)-1)]
	f.asked++
	f.lengths = append(f.lengths, len(p))
	f.heads = append(f.heads, &p[0])
	return s
}

// Read fills what it says it gives with the number of the asking, from 1 on.
func (f *foreign) Read(p []byte) (int, error) {
	s := f.next(p)
	for i := range p {
		if i < s.n {
			p[i] = byte(f.asked)
		}
	}
	if s.panics {
		panic("a reader's")
	}
	return s.n, s.err
}

func (f *foreign) Write(p []byte) (int, error) {
	s := f.next(p)
	if s.panics {
		panic("a writer's")
	}
	f.written = append(f.written, p[:max(0, min(s.n, len(p)))]...)
	return s.n, s.err
}

// moved: what Full and Put answer over that many bytes and these steps (the last one again and again), by P22.7's words, and how often they ask.
func moved(steps []step, length int) (n int, err error, asked int) {
	if length == 0 {
		return 0, nil, 0
	}
	nothings := 0
	for {
		s := steps[min(asked, len(steps)-1)]
		asked++
		if s.panics || s.n < 0 || s.n > length-n {
			return n, api.ErrRange, asked
		}
		n += s.n
		if n == length {
			return n, nil, asked
		}
		if s.err != nil {
			return n, s.err, asked
		}
		if s.n != 0 {
			nothings = 0
		} else {
			nothings++
		}
		if nothings == 100 {
			return n, api.ErrShort, asked
		}
	}
}

var errOdd = errors.New("odd")

// dice is a line of numbers that are the same at every run.
type dice uint64

func (d *dice) next(below int) int {
	*d = *d*6364136223846793005 + 1442695040888963407
	return int(uint64(*d) >> 33 % uint64(below))
}

func (d *dice) bytes(count int) []byte {
	list := make([]byte, count)
	for i := range list {
		list[i] = byte(d.next(256))
	}
	return list
}

func (d *dice) ints(count, from, to int) []int {
	list := make([]int, count)
	for i := range list {
		list[i] = from + d.next(to-from)
	}
	return list
}

// room: the list amid other bytes, so that what lies around it can be looked at.
func room(list []byte) (inner, whole []byte) {
	whole = slices.Concat([]byte{201, 202}, list, []byte{203, 204, 205})
	return whole[2 : 2+len(list)], whole
}

// readOnce holds one Read of so many bytes against what it should give; around the given bytes nothing may change.
func readOnce(t *testing.T, what string, s *Source, length int, want []byte, err error) {
	t.Helper()
	was := bytes.Repeat([]byte{77}, length)
	p, whole := room(was)
	_, after := room(slices.Concat(want, was[len(want):]))
	n, e := s.Read(p)
	if n != len(want) || e != err || !bytes.Equal(whole, after) {
		t.Fatalf("%s: a read of %d: %d, %v, %v; it is to be %v, %v", what, length, n, e, p, want, err)
	}
}
