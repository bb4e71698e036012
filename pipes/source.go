package pipes

import (
	"slices"

	"cullet/api"
)

// Source gives its bytes by a plan.
type Source struct {
	data    []byte
	place   int // bytes that were given
	chunks  []int
	next    int // which of chunks the next turn goes by
	failAt  int
	failure *Broken // nil: it doesn't break
}

// NewSource: over a copy of the data and of the plan.
func NewSource(data []byte, plan api.ReadPlan) *Source {
	return &Source{
		data:    slices.Clone(data),
		chunks:  slices.Clone(plan.Chunks),
		failAt:  plan.FailAt,
		failure: failureOf(plan.FailAt, plan.Code),
	}
}

// Read fills the beginning of p, by the plan. End, the failure, ErrNil.
func (s *Source) Read(p []byte) (int, error) {
	switch {
	case s == nil:
		return 0, api.ErrNil
	case len(p) == 0:
		return 0, nil
	case s.failure != nil && s.place == s.failAt:
		return 0, s.failure
	case s.place == len(s.data):
		return 0, End
	}
	n := copy(p, s.data[s.place:s.place+s.most(s.turn(len(p)))])
	s.place += n
	return n, nil
}

// turn counts a turn, and answers how many of so many bytes its chunk allows.
func (s *Source) turn(wanted int) int {
	if len(s.chunks) == 0 {
		return wanted
	}
	chunk := s.chunks[s.next]
	s.next = (s.next + 1) % len(s.chunks)
	return max(0, min(wanted, chunk))
}

// most: how many of so many bytes there are ahead of the end and of the break.
func (s *Source) most(wanted int) int {
	n := min(wanted, len(s.data)-s.place)
	if s.failure != nil {
		n = min(n, s.failAt-s.place)
	}
	return n
}

// Taken: the bytes that were given so far.
func (s *Source) Taken() int {
	if s == nil {
		return 0
	}
	return s.place
}

// Failure: the very error that this source answers where it breaks; nil where its plan has none.
func (s *Source) Failure() error {
	if s == nil || s.failure == nil {
		return nil
	}
	return s.failure
}
