package sched

import (
	"slices"

	"cullet/api"
)

// run is one run of tasks. It has no lock of its own: who has the turn alone touches it, and the turn is handed on by a channel.
type run struct {
	picks    []int // those that are not used up
	seats    []*seat
	ready    []*seat             // those that can go on, at the decision that is being made
	holders  [api.MaxLocks]*seat // nil: the lock is free
	now      *seat               // whose turn it is; nil between turns
	report   api.Report
	wrong    bool // a task was wrong with a lock
	panicked bool
}

// newRun: a run whose tasks wait at their beginnings. The picks are copied, since a task may get at the caller's list.
func newRun(picks []int, tasks []Task) *run {
	r := &run{picks: slices.Clone(picks)}
	for number, task := range tasks {
		s := &seat{run: r, number: number, turn: make(chan struct{}), at: atBeginning}
		r.seats = append(r.seats, s)
		go s.sit(task)
	}
	return r
}

// play makes decisions till none can go on.
func (r *run) play() {
	for r.findReady(); len(r.ready) > 0; r.findReady() {
		s := r.ready[place(r.pick(), len(r.ready))]
		r.report.Order = append(r.report.Order, s.number)
		r.settleLock(s)
		r.giveTurn(s)
	}
}

func (r *run) findReady() {
	r.ready = r.ready[:0]
	for _, s := range r.seats {
		if s.at != ended && !(s.at == inLock && r.holders[s.lock] != nil) {
			r.ready = append(r.ready, s)
		}
	}
}

// pick: the next one; 0 behind their end.
func (r *run) pick() int {
	if len(r.picks) == 0 {
		return 0
	}
	p := r.picks[0]
	r.picks = r.picks[1:]
	return p
}

// place: p mod n, from 0 to n - 1 for a negative p too.
func place(p, n int) int { return (p%n + n) % n }

// settleLock does what the turn does with the lock at which the task waits.
func (r *run) settleLock(s *seat) {
	switch {
	case s.at == inLock:
		r.holders[s.lock] = s
	case s.at == inUnlock && r.holders[s.lock] == s:
		r.holders[s.lock] = nil
	case s.at == inUnlock:
		s.breakWrong()
	}
}

// giveTurn lets the task run on till it waits again or has ended.
func (r *run) giveTurn(s *seat) {
	r.now = s
	s.turn <- struct{}{}
	<-s.turn
	r.now = nil
}

// breakStuck ends the tasks that are left when none can go on.
func (r *run) breakStuck() {
	for _, s := range r.seats {
		if s.at != ended {
			r.report.Stuck = append(r.report.Stuck, s.number)
			s.broken = true
			r.giveTurn(s)
		}
	}
}

func (r *run) outcome() api.Errno {
	switch {
	case r.wrong:
		return api.ErrLock
	case len(r.report.Stuck) > 0:
		return api.ErrDeadlock
	case r.panicked:
		return api.ErrPanic
	}
	return api.OK
}
