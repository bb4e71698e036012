package crew

import (
	"slices"

	"cullet/api"
	"cullet/sched"
)

// work is what the workers of one call have to do: spans, each with a place for its answer.
type work struct {
	job     Job
	spans   []api.Span
	answers []api.Errno
}

// newWork copies the spans, since a job may get at the caller's list.
func newWork(spans []api.Span, job Job) *work {
	return &work{job: job, spans: slices.Clone(spans), answers: make([]api.Errno, len(spans))}
}

// numbers: a channel with the numbers of all spans, closed behind them.
func (w *work) numbers() chan int {
	numbers := make(chan int, len(w.spans))
	for n := range w.spans {
		numbers <- n
	}
	close(numbers)
	return numbers
}

// do does the job of span n. ErrPanic stands in its place till the job has answered, and so stays there if it never does.
func (w *work) do(n int) {
	defer func() { recover() }()
	w.answers[n] = api.ErrPanic
	w.answers[n] = w.job(w.spans[n])
}

// outcome: the run's error.
func (w *work) outcome() api.Errno {
	for _, answer := range w.answers {
		if answer != api.OK {
			return answer
		}
	}
	return api.OK
}

// queue gives out the numbers below its end, one by one, to workers that are tasks.
type queue struct {
	next, end int
}

// take: the next number; one that isn't below the end, if there is none.
func (q *queue) take(t *sched.Turn) int {
	t.Lock(0)
	n := q.next
	q.next++
	t.Unlock(0)
	return n
}
