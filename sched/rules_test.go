package sched

import (
	"math"
	"slices"
	"sync"
	"testing"

	"cullet/api"
)

// P20.1, P20.4, P1, P8 and the document's rules.

// Which programs are refused, as the chapter's words ask it of each operation.
func refused(programs [][]api.Op) bool {
	for _, program := range programs {
		for _, o := range program {
			known := slices.Contains([]int{api.OpStep, api.OpLock, api.OpUnlock, api.OpLoad, api.OpStore, api.OpSay, api.OpPanic}, o.Kind)
			cell := o.Kind == api.OpLoad || o.Kind == api.OpStore
			if !known || cell && (o.N < 0 || o.N > 15) {
				return true
			}
		}
	}
	return len(programs) > 64
}

func TestProgramsThatAreRefused(t *testing.T) {
	numbers := []int{math.MinInt, -1 << 32, -8, -1, 0, 1, 2, 3, 4, 5, 6, 7, 8, 9, 15, 16, 17, 64, 1 << 32, 1<<32 + 4, math.MaxInt}
	for _, kind := range numbers {
		for _, n := range numbers {
			for _, before := range []int{0, 1, 3} {
				op := api.Op{Kind: kind, N: n, Value: n}
				programs := make([][]api.Op, before+2)
				programs[before] = []api.Op{{Kind: api.OpSay, Value: 4}, op}
				report, e := Play([]int{1, 2}, programs)
				if no := refused(programs); no != (e == api.ErrTasks) || no && !isBlank(report) || !no && len(report.Cells) != 16 {
					t.Errorf("%v in program %d: %v %v", op, before, report, e)
				}
			}
		}
	}
}

func TestTooManyTasks(t *testing.T) {
	for _, count := range []int{0, 1, 63, 64, 65, 66, 128, 1000} {
		ran := 0
		tasks := slices.Repeat([]Task{func(u *Turn) { ran++ }}, count)
		report, e := Run([]int{1}, tasks)
		played, e2 := Play([]int{1}, make([][]api.Op, count))
		if count > 64 {
			if e != api.ErrTasks || ran > 0 || !isBlank(report) || e2 != api.ErrTasks || !isBlank(played) {
				t.Errorf("%d tasks: %v %v, %v %v, %d ran", count, report, e, played, e2, ran)
			}
			continue
		}
		if e != api.OK || ran != count || len(report.Order) != count || e2 != api.OK || !slices.Equal(played.Order, report.Order) || len(played.Cells) != 16 {
			t.Errorf("%d tasks: %v %v, %v %v, %d ran", count, report, e, played, e2, ran)
		}
	}
}

// A nil task, at any place, alone or not: none has run.
func TestNilTasks(t *testing.T) {
	for count := 1; count <= 5; count++ {
		countLists(count, 2, func(list []int) {
			ran := 0
			var tasks []Task
			for _, x := range list {
				if x == 0 {
					tasks = append(tasks, func(u *Turn) { ran++ })
				} else {
					tasks = append(tasks, nil)
				}
			}
			report, e := Run(nil, tasks)
			if slices.Contains(list, 1) {
				if e != api.ErrTasks || ran > 0 || !isBlank(report) {
					t.Errorf("nil where a 1 stands in %v: %v %v, %d ran", list, report, e, ran)
				}
			} else if e != api.OK || ran != count {
				t.Errorf("%d tasks: %v %v, %d ran", count, report, e, ran)
			}
		})
	}
}

// A nil object; a zero struct, of which no more is promised than that the calls end.
func TestTurnsOfNoRun(t *testing.T) {
	var none *Turn
	if none.Self() != -1 {
		t.Error("the number of a nil object is", none.Self())
	}
	for _, u := range []*Turn{nil, {}} {
		for _, l := range []int{-1, 0, 15, 16, math.MaxInt, math.MinInt} {
			endsQuietly(t, "a call of no run's Turn", func() {
				u.Self()
				u.Step()
				u.Lock(l)
				u.Lock(l)
				u.Unlock(l)
				u.Say(l)
			})
		}
	}
}

// callAll calls everything that a Turn has.
func callAll(u *Turn) {
	u.Self()
	u.Step()
	u.Lock(0)
	u.Lock(0)
	u.Unlock(0)
	u.Unlock(1)
	u.Lock(99)
	u.Say(9)
}

// A Turn that is used behind its run, or by another task: nothing is promised of it, but the calls end, and the run goes as it would.
func TestTurnsOfOthers(t *testing.T) {
	var kept []*Turn
	tasks := []Task{
		func(u *Turn) { kept = append(kept, u); u.Step(); u.Say(1) },
		func(u *Turn) { kept = append(kept, u); callAll(kept[0]); u.Say(2); u.Step(); callAll(kept[0]) },
	}
	want := api.Report{Order: []int{0, 1, 0, 1}, Log: says(1, 2, 0, 1)}
	report, e := Run([]int{0, 1, 0, 1}, tasks)
	if e != api.OK || !sameReport(report, want) {
		t.Error(report, e)
	}
	for i, u := range kept {
		endsQuietly(t, "a call behind the run", func() { callAll(u) })
		if u.Self() != i {
			t.Error("the number behind the run", u.Self(), i)
		}
	}
	if !sameReport(report, want) {
		t.Error("a call behind the run has changed its report", report)
	}
}

// A copy of what is behind the pointer: the calls end.
func TestTurnCopied(t *testing.T) {
	endsQuietly(t, "a run with copies of Turns", func() {
		report, _ := Run(nil, []Task{
			func(u *Turn) { v := *u; v.Step(); v.Say(v.Self()); v.Lock(1); v.Unlock(1) },
			func(u *Turn) { v := *u; v.Lock(16) },
		})
		if len(report.Stuck) > 0 {
			t.Error(report)
		}
	})
}

// room: the list amid other numbers, so that its spare room can be looked at.
func room(list []int) (inner, whole []int) {
	whole = slices.Concat([]int{71, 72}, list, []int{73, 74, 75})
	return whole[2 : 2+len(list)], whole
}

// What is handed in is not changed, its spare room included.
func TestArgumentsStay(t *testing.T) {
	d := dice(5)
	for range 300 {
		var all [][]act
		for range d.next(5) {
			all = append(all, d.acts(d.next(6), "SLURWYP"))
		}
		programs := programsOf(append(all, acts("Y1"), nil))
		for i := range programs {
			programs[i] = append(programs[i], api.Op{Kind: api.OpSay, Value: 77}, api.Op{Kind: 99})[:len(programs[i])]
		}
		outer := slices.Clone(programs)
		programs = programs[:len(programs)-1]
		was := make([][]api.Op, len(outer))
		for i := range outer {
			was[i] = slices.Clone(outer[i][:cap(outer[i])])
		}
		list := d.picks(d.next(20))
		picks, whole := room(list)
		_, before := room(list)
		Play(picks, programs)
		if !slices.Equal(whole, before) {
			t.Fatal("the picks or what lies about them", whole, before)
		}
		for i, p := range programs[:cap(programs)][:len(outer)] {
			if len(p) != len(outer[i]) || cap(p) != cap(outer[i]) || !slices.Equal(p[:cap(p)], was[i]) {
				t.Fatal("program", i, p, was[i])
			}
		}
		tasks := []Task{func(u *Turn) { u.Step() }, func(u *Turn) {}, nil}
		Run(picks, tasks[:2])
		if !slices.Equal(whole, before) || tasks[0] == nil || tasks[1] == nil || tasks[2] != nil {
			t.Fatal("the picks or the tasks of Run", whole, before)
		}
	}
}

// The picks and the tasks are those that were handed in, whatever a task does with the lists that they came in.
func TestListsThatTasksChange(t *testing.T) {
	picks := []int{0, 1, 1, 0, 1}
	tasks := make([]Task, 2)
	tasks[0] = func(u *Turn) {
		for i := range picks {
			picks[i] = 0
		}
		tasks[1] = func(u *Turn) { u.Say(3) }
		u.Step()
		u.Say(1)
	}
	tasks[1] = func(u *Turn) { u.Step(); u.Say(2) }
	runs(t, picks, tasks, api.Report{Order: []int{0, 1, 1, 0}, Log: says(1, 2, 0, 1)}, api.OK)
}

// spoil writes over all that a report's lists hold, their spare room too.
func spoil(r api.Report) {
	for _, list := range [][]int{r.Order, r.Cells, r.Stuck} {
		list = list[:cap(list)]
		for i := range list {
			list[i] = -77
		}
	}
	log := r.Log[:cap(r.Log)]
	for i := range log {
		log[i] = api.Said{Task: -77, Value: -77}
	}
}

// The lists of a report are new memory: written over, they change neither one another, nor the arguments, nor another report.
func TestReportsAreNew(t *testing.T) {
	picks, programs := []int{0, 1, 0, 1, 1}, programsOf(each("W0+5 Y1 L0 Y2 L1;L1 Y4 L0;Y3 S"))
	first, e := Play(picks, programs)
	want := api.Report{Order: slices.Clone(first.Order), Log: slices.Clone(first.Log), Cells: slices.Clone(first.Cells), Stuck: slices.Clone(first.Stuck)}
	if e != api.ErrDeadlock || len(want.Stuck) != 2 || len(want.Log) != 4 {
		t.Fatal(first, e)
	}
	for _, part := range []func(r *api.Report) *[]int{
		func(r *api.Report) *[]int { return &r.Order },
		func(r *api.Report) *[]int { return &r.Cells },
		func(r *api.Report) *[]int { return &r.Stuck },
	} {
		r, _ := Play(picks, programs)
		list := part(&r)
		spoil(api.Report{Order: *list})
		other := want
		*part(&other) = *list
		if !sameReport(r, other) {
			t.Error("the lists of one report share memory", r)
		}
	}
	second, _ := Play(picks, programs)
	spoil(first)
	third, e := Play(picks, programs)
	if e != api.ErrDeadlock || !sameReport(second, want) || !sameReport(third, want) || !slices.Equal(picks, []int{0, 1, 0, 1, 1}) {
		t.Error("a report that is written over changes another", second, third, picks)
	}
}

// What Play answers depends on its arguments alone: the same again, and in company.
func TestTheSameAgain(t *testing.T) {
	d := dice(9)
	var group sync.WaitGroup
	for range 40 {
		var all [][]act
		for range 2 + d.next(6) {
			all = append(all, d.acts(d.next(12), "SSSLUURWYYP"))
		}
		picks, programs := d.picks(40), programsOf(all)
		want, error1 := played(picks, all)
		for range 4 {
			group.Go(func() {
				for range 20 {
					if got, e := Play(picks, programs); e != error1 || !sameReport(got, want) {
						t.Errorf("%v by %v: %v %v", all, picks, got, e)
						return
					}
				}
			})
		}
	}
	group.Wait()
}

// Nil and empty lists are one.
func TestNilAndEmpty(t *testing.T) {
	for _, picks := range [][]int{nil, {}} {
		for _, programs := range [][][]api.Op{nil, {}} {
			if report, e := Play(picks, programs); e != api.OK || !sameReport(report, api.Report{Cells: make([]int, 16)}) {
				t.Error(report, e)
			}
		}
		for _, program := range [][]api.Op{nil, {}} {
			if report, e := Play(picks, [][]api.Op{program}); e != api.OK || !sameReport(report, api.Report{Order: []int{0}, Cells: make([]int, 16)}) {
				t.Error(report, e)
			}
		}
		if report, e := Run(picks, nil); e != api.OK || !isBlank(report) {
			t.Error(report, e)
		}
	}
}

// A long run: many turns, many words, more picks than turns.
func TestLongRun(t *testing.T) {
	program := slices.Repeat([]api.Op{{Kind: api.OpStep}, {Kind: api.OpSay, Value: 1}}, 20000)
	d := dice(4)
	report, e := Play(d.picks(100000), [][]api.Op{program, program, program})
	if e != api.OK || len(report.Order) != 60003 || len(report.Log) != 60000 {
		t.Error(len(report.Order), len(report.Log), e)
	}
}
