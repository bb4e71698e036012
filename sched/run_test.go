package sched

import (
	"errors"
	"runtime"
	"slices"
	"strings"
	"sync/atomic"
	"testing"
	"time"

	"cullet/api"
)

// P20.1, P20.2: tasks that are functions, what they put off (defer), their panics, their being broken off.

// notes is what tasks write, to be looked at behind the run.
type notes []string

func (n *notes) add(text string) { *n = append(*n, text) }

func (n notes) are(t *testing.T, want ...string) {
	t.Helper()
	if !slices.Equal(n, want) {
		t.Errorf("the tasks wrote %q; it is to be %q", []string(n), want)
	}
}

// runs: Run's answer is of this order, log and so on.
func runs(t *testing.T, picks []int, tasks []Task, want api.Report, error1 api.Errno) {
	t.Helper()
	if got, e := Run(picks, tasks); e != error1 || !sameReport(got, want) {
		t.Errorf("%v %v; it is to be %v %v", got, e, want, error1)
	}
}

func TestSelfAndSay(t *testing.T) {
	tasks := make([]Task, 64)
	var order []int
	var log []api.Said
	for i := range tasks {
		tasks[i] = func(u *Turn) { u.Say(u.Self()); u.Say(-5) }
		order = append(order, i)
		log = append(log, api.Said{Task: i, Value: i}, api.Said{Task: i, Value: -5})
	}
	runs(t, nil, tasks, api.Report{Order: order, Log: log}, api.OK)
	runs(t, nil, nil, api.Report{}, api.OK)
	runs(t, []int{1, 2}, []Task{}, api.Report{}, api.OK)
}

// Where a task waits: nothing behind the call is done ahead of the next turn, all in front of it is.
func TestWhereATaskWaits(t *testing.T) {
	var n notes
	runs(t, []int{0, 1, 0, 1, 0, 1, 0, 1, 0}, []Task{
		func(u *Turn) {
			n.add("a begins")
			u.Step()
			n.add("a steps")
			u.Lock(2)
			n.add("a locks")
			u.Unlock(2)
			n.add("a unlocks")
		},
		func(u *Turn) {
			for _, text := range []string{"1", "2", "3", "4"} {
				n.add(text)
				u.Step()
			}
		},
	}, api.Report{Order: []int{0, 1, 0, 1, 0, 1, 0, 1, 1}}, api.OK)
	n.are(t, "a begins", "1", "a steps", "2", "a locks", "3", "a unlocks", "4")
}

// Broken off: the call doesn't return, the functions that were put off run in the same turn, and what they call of the Turn breaks off again or says nothing.
func TestBrokenOff(t *testing.T) {
	calls := map[string]func(u *Turn){
		"Step":      func(u *Turn) { u.Step() },
		"Lock":      func(u *Turn) { u.Lock(7) },
		"a bad one": func(u *Turn) { u.Lock(99) },
		"Unlock":    func(u *Turn) { u.Unlock(3) },
	}
	ways := map[string]struct {
		wrong func(u *Turn)
		order []int
	}{
		"no lock to take":      {func(u *Turn) { u.Lock(16) }, []int{0, 0, 1}},
		"no lock to give back": {func(u *Turn) { u.Unlock(-1) }, []int{0, 0, 1}},
		"not its own":          {func(u *Turn) { u.Unlock(4) }, []int{0, 0, 0, 1}},
	}
	for way, w := range ways {
		for name, call := range calls {
			var n notes
			tasks := []Task{
				func(u *Turn) {
					defer n.add("last")
					defer u.Say(1)
					defer func() {
						defer n.add("third")
						call(u)
						n.add("never: " + name)
					}()
					defer func() {
						defer n.add("second")
						call(u)
						n.add("never: " + name)
					}()
					defer n.add("first")
					u.Lock(3)
					u.Say(2)
					w.wrong(u)
					n.add("never: " + way)
				},
				func(u *Turn) { n.add("other") },
			}
			runs(t, nil, tasks, api.Report{Order: w.order, Log: says(0, 2)}, api.ErrLock)
			n.are(t, "first", "second", "third", "last", "other")
		}
	}
}

// The lock of a task that was broken off stays held by it; so does that of one that panicked or ended.
func TestLocksOfTheEnded(t *testing.T) {
	for _, end := range []func(u *Turn){
		func(u *Turn) {},
		func(u *Turn) { u.Lock(-1) },
		func(u *Turn) { panic(1) },
		func(u *Turn) { u.Unlock(8) },
		func(u *Turn) { u.Lock(5) },
		func(u *Turn) { defer u.Unlock(5); u.Unlock(4) },
		func(u *Turn) { runtime.Goexit() },
	} {
		got := false
		report, e := Run(nil, []Task{
			func(u *Turn) { u.Lock(5); end(u) },
			func(u *Turn) { u.Lock(5); got = true },
		})
		if got || e != api.ErrLock && e != api.ErrDeadlock || !slices.Contains(report.Stuck, 1) {
			t.Error("the lock was given on", report, e)
		}
	}
}

// Stuck: broken off in rising order, in no turn, each in its Lock.
func TestStuck(t *testing.T) {
	var n notes
	task := func(name string, first, second int) Task {
		return func(u *Turn) {
			defer n.add(name)
			defer u.Unlock(first)
			defer u.Say(3)
			u.Lock(first)
			u.Lock(second)
			n.add("never")
		}
	}
	runs(t, []int{2, 1, 0, 2, 1, 0}, []Task{task("a", 0, 1), task("b", 1, 2), task("c", 2, 0)},
		api.Report{Order: []int{2, 1, 0, 2, 1, 0}, Stuck: []int{0, 1, 2}}, api.ErrDeadlock)
	n.are(t, "a", "b", "c")
}

// A stuck task that names no lock while it is unwound is stuck, not wrong.
func TestStuckIsNotWrong(t *testing.T) {
	for _, call := range []func(u *Turn){
		func(u *Turn) { u.Lock(99) },
		func(u *Turn) { u.Unlock(-1) },
		func(u *Turn) { u.Unlock(3) },
	} {
		runs(t, nil, []Task{func(u *Turn) { defer call(u); u.Lock(0); u.Lock(0) }}, api.Report{Order: []int{0, 0}, Stuck: []int{0}}, api.ErrDeadlock)
	}
}

func TestPanics(t *testing.T) {
	var none []int
	for name, task := range map[string]Task{
		"a text":         func(u *Turn) { panic("lost") },
		"an error":       func(u *Turn) { panic(errors.New("lost")) },
		"an Errno":       func(u *Turn) { panic(api.OK) },
		"nil":            func(u *Turn) { panic(nil) },
		"the language's": func(u *Turn) { none[3] = 1 },
		"a nil function": func(u *Turn) { var f func(); f() },
		"a turn":         func(u *Turn) { panic(u) },
		"again":          func(u *Turn) { defer func() { panic("second") }(); panic("first") },
		"caught, again":  func(u *Turn) { defer func() { recover(); panic("second") }(); panic("first") },
		"put off":        func(u *Turn) { defer panic("lost") },
	} {
		got, e := Run(nil, []Task{func(u *Turn) {}, task, func(u *Turn) { u.Say(1) }})
		if e != api.ErrPanic || !sameReport(got, api.Report{Order: []int{0, 1, 2}, Log: says(2, 1)}) {
			t.Errorf("%s: %v %v", name, got, e)
		}
	}
}

// A task that catches its own panic has not panicked.
func TestCaughtPanics(t *testing.T) {
	for name, task := range map[string]Task{
		"at its end": func(u *Turn) {
			defer func() { recover() }()
			panic("lost")
		},
		"two of them": func(u *Turn) {
			defer func() { recover() }()
			defer func() { panic("second") }()
			panic("first")
		},
		"within": func(u *Turn) {
			func() {
				defer func() { recover() }()
				panic("lost")
			}()
		},
		"it leaves its goroutine": func(u *Turn) { runtime.Goexit() },
		"it leaves while it panics": func(u *Turn) {
			defer runtime.Goexit()
			panic("lost")
		},
	} {
		if got, e := Run(nil, []Task{task, task}); e != api.OK || !sameReport(got, api.Report{Order: []int{0, 1}}) {
			t.Errorf("%s: %v %v", name, got, e)
		}
	}
}

// What a task that panics has put off is done as part of the task: it waits where it would.
func TestPanicThatWaits(t *testing.T) {
	var n notes
	runs(t, []int{0, 0, 1, 0, 1, 0, 1, 0}, []Task{
		func(u *Turn) {
			defer n.add("a is unwound")
			defer u.Unlock(1)
			defer func() {
				u.Step()
				u.Say(5)
				n.add("a has stepped")
			}()
			u.Lock(1)
			panic("lost")
		},
		func(u *Turn) {
			n.add("b begins")
			u.Lock(1)
			n.add("b has the lock")
		},
	}, api.Report{Order: []int{0, 0, 1, 0, 0, 1}, Log: says(0, 5)}, api.ErrPanic)
	n.are(t, "b begins", "a has stepped", "a is unwound", "b has the lock")
	runs(t, nil, []Task{
		func(u *Turn) { u.Lock(0) },
		func(u *Turn) {
			defer func() { recover() }()
			defer u.Say(6)
			defer u.Lock(0)
			panic("lost")
		},
	}, api.Report{Order: []int{0, 0, 1}, Stuck: []int{1}}, api.ErrDeadlock)
}

func TestManyTasks(t *testing.T) {
	d := dice(21)
	for range 8000 {
		var all [][]act
		for range 1 + d.next(4) {
			all = append(all, d.acts(d.next(8), "SSLLUUWYPDDD"))
		}
		hold(t, d.picks(d.next(30)), all)
	}
}

// A break that was caught in another run is a panic like any other where it is thrown again.
func TestAnothersStop(t *testing.T) {
	var caught any
	_, e := Run(nil, []Task{func(u *Turn) {
		defer func() {
			caught = recover()
			panic(caught)
		}()
		u.Lock(16)
	}})
	if e != api.ErrLock || caught == nil {
		t.Fatal(e, caught)
	}
	runs(t, nil, []Task{func(u *Turn) { panic(caught) }}, api.Report{Order: []int{0}}, api.ErrPanic)
}

// A task that catches what breaks it off, and ends: that it was wrong is told all the same.
func TestCaughtStop(t *testing.T) {
	for _, x := range []struct {
		wrong func(u *Turn)
		want  api.Report
		e     api.Errno
	}{
		{func(u *Turn) { u.Lock(16) }, api.Report{Order: []int{0}}, api.ErrLock},
		{func(u *Turn) { u.Unlock(0) }, api.Report{Order: []int{0, 0}}, api.ErrLock},
		{func(u *Turn) { u.Lock(0); u.Lock(0) }, api.Report{Order: []int{0, 0}, Stuck: []int{0}}, api.ErrDeadlock},
	} {
		runs(t, nil, []Task{func(u *Turn) {
			defer func() { recover() }()
			x.wrong(u)
		}}, x.want, x.e)
	}
}

// whoami: the number of the goroutine, as the language's own traces have it.
func whoami() string {
	text := make([]byte, 64)
	text = text[:runtime.Stack(text, false)]
	return strings.Fields(string(text))[1]
}

// The tasks have goroutines of their own, never two run at one time, and what one has written the next one reads.
func TestOneAtATime(t *testing.T) {
	var running, twice atomic.Int32
	plain := 0
	names := make([][]string, 9)
	tasks := make([]Task, 9)
	for i := range tasks {
		tasks[i] = func(u *Turn) {
			for range 50 {
				if running.Add(1) != 1 {
					twice.Add(1)
				}
				names[i] = append(names[i], whoami())
				plain++
				runtime.Gosched()
				running.Add(-1)
				u.Step()
			}
		}
	}
	d := dice(3)
	if _, e := Run(d.picks(500), tasks); e != api.OK || twice.Load() > 0 || plain != 450 {
		t.Error(e, twice.Load(), plain)
	}
	seen := []string{whoami()}
	for i := range names {
		mine := slices.Compact(names[i])
		if len(mine) != 1 || slices.Contains(seen, mine[0]) {
			t.Error("task", i, "ran in the goroutines", mine, "with", seen, "ahead of it")
		}
		seen = append(seen, mine...)
	}
}

// When Run or Play answers, all goroutines have ended.
func TestGoroutinesHaveEnded(t *testing.T) {
	before := runtime.NumGoroutine()
	for _, text := range []string{"S;S;S", "L0 L0;L0;P;U1;L99", "P;P", "L0 S P;L0;L0", "D( L0 ) L0 S P;L0;D( S ) U7"} {
		for range 50 {
			runActs(nil, each(text))
			if !strings.Contains(text, "D") {
				Play([]int{1, 2, 3}, programsOf(each(text)))
			}
		}
	}
	for tries := 0; runtime.NumGoroutine() > before; tries++ {
		if tries > 500 {
			t.Fatal(runtime.NumGoroutine(), "goroutines, and", before, "ahead of the runs")
		}
		time.Sleep(time.Millisecond)
	}
}

// A run within a task of another run: each has its own turns, locks and log.
func TestRunWithinATask(t *testing.T) {
	inner := func() {
		runs(t, []int{1}, []Task{
			func(u *Turn) { u.Lock(0); u.Say(1); u.Unlock(0) },
			func(u *Turn) { u.Say(u.Self()); u.Lock(0); u.Unlock(0) },
		}, api.Report{Order: []int{1, 0, 0, 0, 1, 1}, Log: says(1, 1, 0, 1)}, api.OK)
	}
	runs(t, nil, []Task{
		func(u *Turn) { u.Lock(0); inner(); u.Step(); u.Unlock(0) },
		func(u *Turn) { inner(); u.Lock(0); u.Unlock(0); u.Say(2) },
	}, api.Report{Order: []int{0, 0, 0, 0, 1, 1, 1}, Log: says(1, 2)}, api.OK)
}
