package sched

import "cullet/api"

// where is the place at which a task waits.
type where int

const (
	atBeginning where = iota
	inStep
	inLock
	inUnlock
	ended
)

// seat is a task's place in a run.
type seat struct {
	run    *run
	number int
	turn   chan struct{} // the turn comes and goes by it
	at     where
	lock   int  // of inLock and inUnlock
	broken bool // it is broken off, so that it waits nowhere any more
}

// stop is what unwinds a task that is broken off. It names the seat, lest a task that panics with another's stop pass for one that was broken off itself.
type stop struct {
	seat *seat
}

// sit runs the task from its first turn on. To hand the turn back is the goroutine's last act, so that it has ended when the run goes on.
func (s *seat) sit(task Task) {
	defer func() {
		s.end(recover())
		s.turn <- struct{}{}
	}()
	<-s.turn
	task(&Turn{seat: s})
}

// end tells a panic of the task's own from being broken off.
func (s *seat) end(caught any) {
	unwound, isStop := caught.(stop)
	if caught != nil && !(isStop && unwound.seat == s) {
		s.run.panicked = true
	}
	s.at = ended
}

// wait hands the turn back, and returns when it has come again.
func (s *seat) wait(at where, lock int) {
	s.stopIfBroken()
	s.at, s.lock = at, lock
	s.turn <- struct{}{}
	<-s.turn
	s.stopIfBroken()
}

func (s *seat) stopIfBroken() {
	if s.broken {
		panic(stop{s})
	}
}

// lookAt breaks the task off if there is no such lock; wait then stops it. One that is broken off already is not wrong once more.
func (s *seat) lookAt(lock int) {
	if !s.broken && (lock < 0 || lock >= api.MaxLocks) {
		s.breakWrong()
	}
}

// breakWrong breaks the task off where it is, for what it did with a lock.
func (s *seat) breakWrong() {
	s.broken = true
	s.run.wrong = true
}
