package crew

import (
	"errors"
	"math"
	"runtime"
	"slices"
	"sync"
	"sync/atomic"
	"testing"
	"time"

	"cullet/api"
)

// P21.2.

func TestFreeExamples(t *testing.T) {
	called := 0
	job := func(api.Span) api.Errno { called++; return api.OK }
	if e := Free(0, nil, nil); e != api.ErrWorkers {
		t.Error("no workers and no job:", e)
	}
	if e := Free(1, nil, nil); e != api.ErrNil {
		t.Error("no job:", e)
	}
	if e := Free(3, nil, job); e != api.OK || called > 0 {
		t.Error("no spans:", e, called)
	}
	if e := Free(2, marks(3), jobOf([]api.Errno{api.OK, api.ErrLens, api.ErrOdd})); e != api.ErrLens {
		t.Error("the second and the third are wrong:", e)
	}
}

// Each span is done as often as it stands in the list, whatever numbers it has.
func TestEachSpanOnce(t *testing.T) {
	d := dice(1)
	numbers := []int{math.MinInt, -1, 0, 1, 2, 3, 1 << 40, math.MaxInt}
	for round := range 400 {
		spans := make([]api.Span, d.next(30))
		want := map[api.Span]int{}
		for i := range spans {
			spans[i] = api.Span{From: numbers[d.next(8)], To: numbers[d.next(8)]}
			want[spans[i]]++
		}
		var lock sync.Mutex
		e := Free(1+d.next(64), spans, func(span api.Span) api.Errno {
			lock.Lock()
			want[span]--
			lock.Unlock()
			return api.OK
		})
		for span, left := range want {
			if left != 0 || e != api.OK {
				t.Fatal("round", round, span, "is left over", left, "times;", e)
			}
		}
	}
}

// Many spans: each answer stands in its own place, though it has no lock.
func TestManySpans(t *testing.T) {
	for _, workers := range []int{1, 2, 3, 8, 64} {
		for _, count := range []int{1, 63, 64, 65, 1000, 65536, 70001} {
			done := make([]int, count)
			e := Free(workers, marks(count), func(span api.Span) api.Errno {
				done[span.From]++
				return api.OK
			})
			if e != api.OK || slices.ContainsFunc(done, func(times int) bool { return times != 1 }) {
				t.Error(workers, "workers,", count, "spans:", e)
			}
		}
	}
}

// The answer is the first span's that isn't OK, whatever it is; all are done all the same.
func TestTheFirstError(t *testing.T) {
	d := dice(2)
	for round := range 3000 {
		answers := d.answers(d.next(40), 1+d.next(20))
		var calls atomic.Int64
		job := jobOf(answers)
		e := Free(1+d.next(9), marks(len(answers)), func(span api.Span) api.Errno {
			calls.Add(1)
			return job(span)
		})
		if e != firstBad(answers) || calls.Load() != int64(len(answers)) {
			t.Fatal("round", round, answers, e, calls.Load())
		}
	}
}

// The first in the order of the spans counts, not the first in time.
func TestTheFirstErrorComesLast(t *testing.T) {
	var others sync.WaitGroup
	others.Add(9)
	e := Free(2, marks(10), func(span api.Span) api.Errno {
		if span.From == 0 {
			others.Wait()
			return api.ErrOdd
		}
		defer others.Done()
		if span.From == 5 {
			panic("a job's own")
		}
		return api.ErrLens
	})
	if e != api.ErrOdd {
		t.Error(e)
	}
}

// At most so many jobs go on at one time.
func TestNoMoreThanTheWorkers(t *testing.T) {
	for _, workers := range []int{1, 2, 3, 7, 64} {
		var now, most atomic.Int64
		Free(workers, marks(200), func(span api.Span) api.Errno {
			here := now.Add(1)
			for was := most.Load(); was < here && !most.CompareAndSwap(was, here); was = most.Load() {
			}
			if span.From%8 == 0 {
				time.Sleep(20 * time.Microsecond)
			}
			runtime.Gosched()
			now.Add(-1)
			return api.OK
		})
		if most.Load() > int64(workers) {
			t.Error(workers, "workers do", most.Load(), "jobs at one time")
		}
	}
}

// The workers are in company: jobs that wait for one another come to their end.
func TestWorkersMeet(t *testing.T) {
	for _, workers := range []int{2, 3, 64} {
		var here sync.WaitGroup
		here.Add(workers)
		if e := Free(workers, marks(workers), func(api.Span) api.Errno {
			here.Done()
			here.Wait()
			return api.OK
		}); e != api.OK {
			t.Error(workers, e)
		}
	}
}

// panics: jobs that don't come to an answer of their own.
func panics() map[string]Job {
	return map[string]Job{
		"text":  func(api.Span) api.Errno { panic("a job's own") },
		"nil":   func(api.Span) api.Errno { panic(nil) },
		"errno": func(api.Span) api.Errno { panic(api.ErrOdd) },
		"ok":    func(api.Span) api.Errno { panic(api.OK) },
		"error": func(api.Span) api.Errno { panic(errors.New("a job's own")) },
		"index": func(span api.Span) api.Errno { return []api.Errno{}[span.From] },
		"null":  func(span api.Span) api.Errno { var p *api.Errno; return *p },
		"div":   func(span api.Span) api.Errno { return api.Errno(1 / (span.From - span.From)) },
		"map":   func(span api.Span) api.Errno { var m map[int]int; m[1] = 1; return api.OK },
		"closed": func(span api.Span) api.Errno {
			c := make(chan int)
			close(c)
			close(c)
			return api.OK
		},
		"named": func(span api.Span) (e api.Errno) { e = api.ErrLens; panic(e) },
		"again": func(span api.Span) api.Errno { defer func() { panic(recover()) }(); panic(1) },
		"late":  func(span api.Span) api.Errno { defer func() { panic(2) }(); return api.OK },
	}
}

// A job that panics, with whatever, counts as one that answers ErrPanic.
func TestJobsThatPanic(t *testing.T) {
	for name, job := range panics() {
		for _, workers := range []int{1, 2, 64} {
			for at := range 4 {
				var done [4]int
				e := Free(workers, marks(4), func(span api.Span) api.Errno {
					done[span.From]++
					if span.From == at {
						return job(span)
					}
					return api.OK
				})
				if e != api.ErrPanic || done != [4]int{1, 1, 1, 1} {
					t.Error(name, workers, at, e, done)
				}
			}
			if e := Free(workers, marks(100), job); e != api.ErrPanic {
				t.Error(name, workers, e)
			}
		}
	}
	caught := func(api.Span) (e api.Errno) {
		defer func() { recover(); e = api.ErrOdd }()
		panic("caught by the job")
	}
	if e := Free(2, marks(3), caught); e != api.ErrOdd {
		t.Error("a panic that the job has caught:", e)
	}
}

// A job that ends its goroutine answers nothing; the call ends, and all spans are done.
func TestJobsThatLeave(t *testing.T) {
	for _, workers := range []int{1, 2, 64} {
		for _, every := range []int{1, 2, 50, 1000} {
			done := make([]int, 300)
			e := Free(workers, marks(300), func(span api.Span) api.Errno {
				done[span.From]++
				if (span.From+1)%every == 0 {
					runtime.Goexit()
				}
				return api.OK
			})
			want := api.ErrPanic
			if every > 300 {
				want = api.OK
			}
			if e != want || slices.ContainsFunc(done, func(times int) bool { return times != 1 }) {
				t.Error(workers, every, e, done)
			}
		}
	}
}

// When Free answers, its goroutines have ended. (One that has told so may still be counted for a moment.)
func TestNoGoroutineIsLeft(t *testing.T) {
	before := runtime.NumGoroutine()
	for _, job := range panics() {
		for range 20 {
			Free(64, marks(100), job)
			Free(64, marks(3), nothing)
			Free(3, marks(100), nothing)
		}
	}
	for range 100 {
		if runtime.NumGoroutine() <= before {
			return
		}
		time.Sleep(time.Millisecond)
	}
	t.Error(before, "goroutines became", runtime.NumGoroutine())
}

// Jobs' ends are all before the answer, so that what they wrote can be read without a lock.
func TestAllHaveEndedAtTheAnswer(t *testing.T) {
	for range 200 {
		done := make([]bool, 64)
		Free(64, marks(64), func(span api.Span) api.Errno {
			defer func() { done[span.From] = true }()
			for range span.From % 5 {
				runtime.Gosched()
			}
			if span.From%7 == 0 {
				panic("a job's own")
			}
			return api.OK
		})
		if slices.Contains(done, false) {
			t.Fatal("a job goes on behind the answer")
		}
	}
}
