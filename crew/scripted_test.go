package crew

import (
	"math"
	"runtime"
	"slices"
	"testing"

	"cullet/api"
)

// P21.3 and P21.4.

// holds: does Scripted deal and order as the model does, with these answers of the jobs, and Deal too?
func holds(t *testing.T, picks []int, workers int, answers []api.Errno) {
	t.Helper()
	wantWho, wantOrder := dealt(picks, workers, len(answers))
	var order []int
	job := jobOf(answers)
	who, e := Scripted(picks, workers, marks(len(answers)), func(span api.Span) api.Errno {
		order = append(order, span.From)
		return job(span)
	})
	if e != firstBad(answers) || !slices.Equal(who, wantWho) || !slices.Equal(order, wantOrder) {
		t.Fatalf("Scripted by %v, %d workers, answers %v: %v %v in the order %v; it is to be %v %v in the order %v", picks, workers, answers, who, e, order, wantWho, firstBad(answers), wantOrder)
	}
	if who, e := Deal(picks, workers, len(answers)); e != api.OK || !slices.Equal(who, wantWho) {
		t.Fatalf("Deal by %v, %d workers, %d jobs: %v %v; it is to be %v", picks, workers, len(answers), who, e, wantWho)
	}
}

// Worked out by hand from the chapter's words, so that the model is held against something too.
func TestScriptedByHand(t *testing.T) {
	for _, c := range []struct {
		picks      []int
		workers    int
		who, order []int
	}{
		{nil, 2, []int{0, 0, 0}, []int{0, 1, 2}},
		{[]int{1}, 2, []int{0, 0, 0}, []int{0, 1, 2}},
		// 1 begins and takes the lock with the first number; then 0, that can't have the lock, is not there to choose.
		{[]int{1, 1, 0, 0}, 2, []int{1, 0, 0}, []int{1, 2, 0}},
		{[]int{1, 1, 1, 1, 1, 1, 1, 1, 1, 1, 1}, 2, []int{1, 1, 1}, []int{0, 1, 2}},
		{[]int{-1, -1, -1, -1}, 3, []int{2, 0, 0}, []int{0, 1, 2}},
	} {
		wantWho, wantOrder := dealt(c.picks, c.workers, 3)
		if !slices.Equal(wantWho, c.who) || !slices.Equal(wantOrder, c.order) {
			t.Errorf("the model by %v: %v %v", c.picks, wantWho, wantOrder)
		}
		holds(t, c.picks, c.workers, make([]api.Errno, 3))
	}
}

// All beginnings of the picks, for few workers and spans.
func TestAllPicks(t *testing.T) {
	for spans := range 5 {
		countLists(11, 2, func(picks []int) { holds(t, picks, 2, make([]api.Errno, spans)) })
	}
	for spans := range 4 {
		countLists(7, 3, func(picks []int) { holds(t, picks, 3, make([]api.Errno, spans)) })
	}
	countLists(5, 4, func(picks []int) { holds(t, append(picks, 3, 1, 2, 2, 1, 3, 3), 4, make([]api.Errno, 3)) })
}

func TestThrownPicks(t *testing.T) {
	d := dice(6)
	for range 4000 {
		workers := 1 + d.next(5)
		if d.next(10) == 0 {
			workers = 1 + d.next(64)
		}
		answers := d.answers(d.next(30), 1+d.next(20))
		holds(t, d.picks(d.next(120), 1+d.next(70)), workers, answers)
	}
}

func TestEachNumberOfWorkers(t *testing.T) {
	d := dice(7)
	for workers := 1; workers <= 64; workers++ {
		holds(t, nil, workers, make([]api.Errno, 5))
		holds(t, d.picks(300, 64), workers, d.answers(70, 9))
		holds(t, slices.Repeat([]int{math.MaxInt, math.MinInt, -1}, 90), workers, d.answers(70, 70))
	}
}

// As many as a length is cut into, and more.
func TestManyScripted(t *testing.T) {
	d := dice(8)
	for _, workers := range []int{1, 3, 64} {
		holds(t, d.picks(210000, 64), workers, d.answers(65536, 30000))
	}
	answers := make([]api.Errno, 65540)
	answers[65539] = api.ErrOdd
	who, e := Scripted([]int{1}, 2, marks(len(answers)), jobOf(answers))
	if wantWho, _ := dealt([]int{1}, 2, len(answers)); e != api.ErrOdd || !slices.Equal(who, wantWho) {
		t.Error(len(who), e)
	}
}

// The span that is handed to a job is the list's own, whatever its numbers are, and as often as it stands there.
func TestScriptedSpans(t *testing.T) {
	spans := []api.Span{{From: 3, To: 1}, {From: 3, To: 1}, {From: math.MinInt, To: math.MaxInt}, {}, {From: -1, To: -1}}
	var got []api.Span
	who, e := Scripted(nil, 3, spans, func(span api.Span) api.Errno { got = append(got, span); return api.OK })
	if e != api.OK || !slices.Equal(got, spans) || !slices.Equal(who, make([]int, 5)) {
		t.Error(got, who, e)
	}
}

// No two jobs go on at one time, and what one has written the next one reads.
func TestOneJobAtATime(t *testing.T) {
	d := dice(10)
	busy, sum := false, 0
	_, e := Scripted(d.picks(4000, 8), 8, marks(1000), func(span api.Span) api.Errno {
		if busy {
			return api.ErrOdd
		}
		busy = true
		for range 3 {
			runtime.Gosched()
		}
		sum += span.From
		busy = false
		return api.OK
	})
	if e != api.OK || sum != 499500 {
		t.Error(sum, e)
	}
}

// A job that panics leaves its worker at work: the list is the same as without.
func TestScriptedJobsThatPanic(t *testing.T) {
	picks := []int{0, 1, 2, 0, 0, 1, 1, 0, 2, 1, 0, 1, 1, 2}
	want, _ := dealt(picks, 3, 6)
	for name, job := range panics() {
		for at := range 6 {
			calls := 0
			who, e := Scripted(picks, 3, marks(6), func(span api.Span) api.Errno {
				calls++
				if span.From == at {
					return job(span)
				}
				return api.OK
			})
			if e != api.ErrPanic || calls != 6 || !slices.Equal(who, want) {
				t.Error(name, at, who, e, calls)
			}
		}
		if who, e := Scripted(picks, 3, marks(6), job); e != api.ErrPanic || !slices.Equal(who, want) {
			t.Error(name, who, e)
		}
	}
}

// A job that ends its goroutine: the call ends, and all spans are done.
func TestScriptedJobsThatLeave(t *testing.T) {
	for _, workers := range []int{1, 2, 64} {
		for _, every := range []int{1, 3, 50} {
			var done [100]int
			who, e := Scripted([]int{1, 1, 0, 1}, workers, marks(100), func(span api.Span) api.Errno {
				done[span.From]++
				if (span.From+1)%every == 0 {
					runtime.Goexit()
				}
				return api.OK
			})
			if e != api.ErrPanic || len(who) != 100 || slices.Max(done[:]) != 1 || slices.Min(done[:]) != 1 {
				t.Error(workers, every, who, e, done)
			}
		}
	}
}
