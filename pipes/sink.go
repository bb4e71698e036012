package pipes

import (
	"slices"

	"cullet/api"
)

// Sink keeps what it is given, by a plan.
type Sink struct {
	taken   []byte
	failAt  int
	failure *Broken // nil: it doesn't break
}

// NewSink: an empty one.
func NewSink(plan api.WritePlan) *Sink {
	return &Sink{failAt: plan.FailAt, failure: failureOf(plan.FailAt, plan.Code)}
}

// Write takes p, or its beginning up to the place where it breaks. The failure, ErrNil.
func (s *Sink) Write(p []byte) (int, error) {
	if s == nil {
		return 0, api.ErrNil
	}
	if s.failure == nil || len(p) <= s.room() {
		s.taken = append(s.taken, p...)
		return len(p), nil
	}
	n := s.room()
	s.taken = append(s.taken, p[:n]...)
	return n, s.failure
}

// room: the bytes ahead of the break of a sink that has one.
func (s *Sink) room() int { return s.failAt - len(s.taken) }

// Bytes: a copy of all that was taken.
func (s *Sink) Bytes() []byte {
	if s == nil {
		return nil
	}
	return slices.Clone(s.taken)
}

// Failure: the very error that this sink answers where it breaks; nil where its plan has none.
func (s *Sink) Failure() error {
	if s == nil || s.failure == nil {
		return nil
	}
	return s.failure
}
