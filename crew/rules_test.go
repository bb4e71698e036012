package crew

import (
	"math"
	"slices"
	"sync"
	"testing"

	"cullet/api"
)

// P21.5, P1, P8 and the document's rules.

// Each error is a question of its own; beside one nothing is done.
func TestErrors(t *testing.T) {
	numbers := []int{math.MinInt, -1 << 32, -1, 0, 1, 2, 63, 64, 65, 66, 65535, 65536, 65537, 1 << 32, 1<<32 + 1, math.MaxInt}
	for _, workers := range numbers {
		for _, count := range []int{0, 1, 70} {
			for _, isNil := range []bool{false, true} {
				want := api.OK
				if workers < 1 || workers > 64 {
					want = api.ErrWorkers
				} else if isNil {
					want = api.ErrNil
				}
				free := make([]int, count)
				scripted := make([]int, count)
				first := func(span api.Span) api.Errno { free[span.From]++; return api.OK }
				second := func(span api.Span) api.Errno { scripted[span.From]++; return api.OK }
				if isNil {
					first, second = nil, nil
				}
				e := Free(workers, marks(count), first)
				who, e2 := Scripted([]int{2, 1}, workers, marks(count), second)
				times, listed := 0, 0
				if want == api.OK {
					times, listed = 1, count
				}
				if e != want || e2 != want || len(who) != listed || !slices.Equal(free, slices.Repeat([]int{times}, count)) || !slices.Equal(scripted, free) {
					t.Errorf("%d workers, %d spans, no job: %v: %v, %v %v; it is to be %v", workers, count, isNil, e, who, e2, want)
				}
			}
		}
		for _, jobs := range numbers {
			want, listed := api.OK, jobs
			if workers < 1 || workers > 64 {
				want, listed = api.ErrWorkers, 0
			} else if jobs < 0 || jobs > 65536 {
				want, listed = api.ErrRange, 0
			}
			if who, e := Deal([]int{1}, workers, jobs); e != want || len(who) != listed {
				t.Errorf("Deal of %d jobs to %d workers: %d, %v; it is to be %v", jobs, workers, len(who), e, want)
			}
		}
	}
}

// room: the list amid other things, so that its spare room can be looked at.
func room[T any](list []T, other T) (inner, whole []T) {
	whole = slices.Concat([]T{other, other}, list, []T{other, other, other})
	return whole[2 : 2+len(list)], whole
}

// What is handed in is not changed, its spare room included.
func TestArgumentsStay(t *testing.T) {
	d := dice(5)
	for range 300 {
		answers := d.answers(d.next(9), 4)
		listed, thrown := marks(len(answers)), d.picks(d.next(20), 7)
		spans, allSpans := room(listed, api.Span{From: 71, To: 72})
		picks, allPicks := room(thrown, 73)
		_, spansWere := room(listed, api.Span{From: 71, To: 72})
		_, picksWere := room(thrown, 73)
		workers := d.next(6)
		Free(workers, spans, jobOf(answers))
		Scripted(picks, workers, spans, jobOf(answers))
		Scripted(picks, workers, spans, nil)
		Deal(picks, workers, len(answers))
		if !slices.Equal(allSpans, spansWere) || !slices.Equal(allPicks, picksWere) {
			t.Fatal(allSpans, allPicks)
		}
	}
}

// The spans and the picks are those that were handed in, whatever a job does with the lists that they came in.
func TestListsThatJobsChange(t *testing.T) {
	spans := marks(50)
	var lock sync.Mutex
	var got []int
	if e := Free(4, spans, func(span api.Span) api.Errno {
		lock.Lock()
		defer lock.Unlock()
		got = append(got, span.From)
		clear(spans)
		return api.OK
	}); e != api.OK {
		t.Error(e)
	}
	slices.Sort(got)
	if !slices.Equal(got, rising(50)) {
		t.Error("Free:", got)
	}
	picks := []int{0, 1, 1, 1, 0, 0, 0, 1, 1, 1, 1, 1}
	spans = marks(5)
	wantWho, wantOrder := dealt(picks, 2, 5)
	got = nil
	who, e := Scripted(picks, 2, spans, func(span api.Span) api.Errno {
		got = append(got, span.From)
		clear(spans)
		clear(picks)
		return api.OK
	})
	if e != api.OK || !slices.Equal(got, wantOrder) || !slices.Equal(who, wantWho) {
		t.Error("Scripted:", got, who, e)
	}
}

// The lists of an answer are new memory.
func TestAnswersAreNew(t *testing.T) {
	picks := []int{0, 1, 1, 1, 0, 0, 0, 1}
	spans := marks(4)
	calls := []func() ([]int, api.Errno){
		func() ([]int, api.Errno) { return Scripted(picks, 2, spans, nothing) },
		func() ([]int, api.Errno) { return Scripted(picks, 2, spans, panics()["text"]) },
		func() ([]int, api.Errno) { return Deal(picks, 2, 4) },
	}
	for i, call := range calls {
		first, _ := call()
		second, _ := call()
		want := slices.Clone(first)
		all := first[:cap(first)]
		for j := range all {
			all[j] = -77
		}
		third, _ := call()
		if !slices.Equal(second, want) || !slices.Equal(third, want) || !slices.Equal(picks, []int{0, 1, 1, 1, 0, 0, 0, 1}) || !slices.Equal(spans, marks(4)) {
			t.Error(i, second, third, picks, spans)
		}
	}
}

// Nothing is kept: the same again behind whatever calls, and in company over the same lists.
func TestInCompany(t *testing.T) {
	d := dice(9)
	var group sync.WaitGroup
	for range 24 {
		picks, workers, answers := d.picks(60, 9), 1+d.next(9), d.answers(d.next(40), 20)
		spans := marks(len(answers))
		want, _ := dealt(picks, workers, len(spans))
		for range 4 {
			group.Go(func() {
				for range 15 {
					if e := Free(workers, spans, jobOf(answers)); e != firstBad(answers) {
						t.Error("Free:", e, answers)
					}
					if who, e := Scripted(picks, workers, spans, jobOf(answers)); e != firstBad(answers) || !slices.Equal(who, want) {
						t.Error("Scripted:", who, e, answers)
					}
					if who, e := Deal(picks, workers, len(spans)); e != api.OK || !slices.Equal(who, want) {
						t.Error("Deal:", who, e)
					}
				}
			})
		}
	}
	group.Wait()
}

// A job that calls the crew again.
func TestCrewsWithinJobs(t *testing.T) {
	picks := []int{0, 1, 1, 1, 0, 0, 0, 1}
	want, _ := dealt(picks, 2, 4)
	inner := func(api.Span) api.Errno {
		if who, e := Scripted(picks, 2, marks(4), nothing); e != api.OK || !slices.Equal(who, want) {
			return api.ErrLens
		}
		return Free(3, marks(5), jobOf([]api.Errno{0, 0, api.ErrPanic, api.ErrOdd, 0}))
	}
	if e := Free(2, marks(6), inner); e != api.ErrPanic {
		t.Error("within Free:", e)
	}
	if who, e := Scripted(picks, 2, marks(4), inner); e != api.ErrPanic || !slices.Equal(who, want) {
		t.Error("within Scripted:", who, e)
	}
}

// Nil and empty lists are one.
func TestNilAndEmpty(t *testing.T) {
	for _, picks := range [][]int{nil, {}} {
		for _, spans := range [][]api.Span{nil, {}} {
			endsQuietly(t, "a call without spans", func() {
				if e := Free(2, spans, panics()["text"]); e != api.OK {
					t.Error(e)
				}
				if who, e := Scripted(picks, 2, spans, panics()["text"]); e != api.OK || len(who) > 0 {
					t.Error(who, e)
				}
			})
		}
		if who, e := Deal(picks, 64, 0); e != api.OK || len(who) > 0 {
			t.Error(who, e)
		}
		if who, e := Scripted(picks, 3, marks(2), nothing); e != api.OK || !slices.Equal(who, []int{0, 0}) {
			t.Error(who, e)
		}
	}
}
