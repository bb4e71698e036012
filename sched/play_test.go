package sched

import (
	"math"
	"slices"
	"testing"

	"cullet/api"
)

// P20.2, P20.3: how a run goes, told by programs and by tasks that do the same.

func says(numbers ...int) []api.Said {
	var log []api.Said
	for i := 0; i < len(numbers); i += 2 {
		log = append(log, api.Said{Task: numbers[i], Value: numbers[i+1]})
	}
	return log
}

// The chapter's examples, and the edges that its words name; the model is held against them too.
func TestExamples(t *testing.T) {
	for _, x := range []struct {
		programs string
		picks    []int
		order    []int
		log      []api.Said
		cell     int
		stuck    []int
		e        api.Errno
	}{
		{"Y1 S Y2;Y3", nil, []int{0, 0, 1}, says(0, 1, 0, 2, 1, 3), 0, nil, api.OK},
		{"Y1 S Y2;Y3", []int{1}, []int{1, 0, 0}, says(1, 3, 0, 1, 0, 2), 0, nil, api.OK},
		{"Y1 S Y2;Y3", []int{-1}, []int{1, 0, 0}, says(1, 3, 0, 1, 0, 2), 0, nil, api.OK},
		{"R0 S W0+1;R0 S W0+1", nil, []int{0, 0, 1, 1}, nil, 2, nil, api.OK},
		{"R0 S W0+1;R0 S W0+1", []int{0, 1}, []int{0, 1, 0, 1}, nil, 1, nil, api.OK},
		{"L0 R0 S W0+1 U0;L0 R0 S W0+1 U0", []int{0, 1, 0, 1, 0, 1}, []int{0, 1, 0, 0, 0, 1, 1, 1}, nil, 2, nil, api.OK},
		{"L0 L1;L1 L0", []int{0, 1, 0, 1, 1}, []int{0, 1, 0, 1}, nil, 0, []int{0, 1}, api.ErrDeadlock},
		{"L0 L0", nil, []int{0, 0}, nil, 0, []int{0}, api.ErrDeadlock},
		{"U0", nil, []int{0, 0}, nil, 0, nil, api.ErrLock},
		{"L16", nil, []int{0}, nil, 0, nil, api.ErrLock},
		{"L0;L0", nil, []int{0, 0, 1}, nil, 0, []int{1}, api.ErrDeadlock},
		{"P;Y4", nil, []int{0, 1}, says(1, 4), 0, nil, api.ErrPanic},
		{"P;L0 L0", nil, []int{0, 1, 1}, nil, 0, []int{1}, api.ErrDeadlock},
		{"none", nil, nil, nil, 0, nil, api.OK},
		{"", nil, []int{0}, nil, 0, nil, api.OK},
		{"L15 U15 Y1", nil, []int{0, 0, 0}, says(0, 1), 0, nil, api.OK},
		{"U15 Y1", nil, []int{0, 0}, nil, 0, nil, api.ErrLock},
		{"S L-1 Y1;Y2", nil, []int{0, 0, 1}, says(1, 2), 0, nil, api.ErrLock},
		{"U16 Y1;Y2", []int{1}, []int{1, 0}, says(1, 2), 0, nil, api.ErrLock},
		// Unlock of another's lock: the lock stays the other's, who can give it back still.
		{"L0 S U0 Y1;U0 Y2;L0 Y3", []int{0, 0, 1, 1, 1}, []int{0, 0, 1, 1, 2, 0, 0, 2}, says(0, 1, 2, 3), 0, nil, api.ErrLock},
		// Taken, given back, and given back again.
		{"L3 U3 U3 Y1", nil, []int{0, 0, 0, 0}, nil, 0, nil, api.ErrLock},
		// ErrLock stands ahead of ErrDeadlock and ErrPanic.
		{"P;L0 L0;U1", nil, []int{0, 1, 1, 2, 2}, nil, 0, []int{1}, api.ErrLock},
		// Who waits for a lock is not counted among those that can go on.
		{"L0 S S U0;L0 Y1 U0;S Y2", []int{0, 0, 1, 1, 1}, []int{0, 0, 1, 2, 2, 0, 0, 0, 1, 1}, says(2, 2, 1, 1), 0, nil, api.OK},
		// The stuck one's lock is held by one that is stuck, broken off, or has panicked.
		{"L0 P;L1 U0;L1;L0", nil, []int{0, 0, 1, 1, 1, 2, 3}, nil, 0, []int{2, 3}, api.ErrLock},
	} {
		all := each(x.programs)
		hold(t, x.picks, all)
		got, e := Play(x.picks, programsOf(all))
		if e != x.e || !slices.Equal(got.Order, x.order) || !slices.Equal(got.Log, x.log) || !slices.Equal(got.Stuck, x.stuck) || len(got.Cells) != 16 || got.Cells[0] != x.cell {
			t.Errorf("%s by %v: %v %v", x.programs, x.picks, got, e)
		}
	}
}

// The last pick before and behind the list's end; the remainder of picks far below and above 0.
func TestPicks(t *testing.T) {
	for n := 1; n <= 64; n++ {
		programs := make([][]api.Op, n)
		for _, pick := range []int{0, 1, -1, n, -n, n - 1, 63, 64, -64, -65, math.MaxInt, math.MinInt, math.MinInt + 1, 1 << 32, -1 << 31} {
			want := pick % n
			if want < 0 {
				want += n
			}
			report, e := Play([]int{pick}, programs)
			if e != api.OK || len(report.Order) != n || report.Order[0] != want {
				t.Fatalf("pick %d of %d: %v %v", pick, n, report.Order, e)
			}
			others := slices.Clone(report.Order[1:])
			if !slices.IsSorted(others) || slices.Contains(others, want) {
				t.Fatalf("pick %d of %d: %v; the picks behind the end are 0", pick, n, report.Order)
			}
		}
	}
}

// All pairs of programs of up to two operations, by all beginnings of schedules.
func TestAllShortPairs(t *testing.T) {
	words := []string{"S", "L0", "U0", "L1", "R0", "W0+1", "Y7", "P"}
	lists := [][]act{nil}
	for _, first := range words {
		lists = append(lists, acts(first))
		for _, second := range words {
			lists = append(lists, acts(first+" "+second))
		}
	}
	for _, a := range lists {
		for _, b := range lists {
			countLists(3, 2, func(picks []int) { hold(t, picks, [][]act{a, b}) })
		}
	}
}

// Three tasks that meet at two locks, by all schedules of their first seven turns.
func TestAllSchedules(t *testing.T) {
	for _, text := range []string{
		"L0 L1 U1 U0;L1 L0 U0 U1;S Y1",
		"L0 R0 S W0+1 U0;R0 S W0+10;L0 R0 W0-3 U0",
		"L0 S U0;U0;L0 U0 Y4",
		"L0 P;S L0;Y2 S",
	} {
		all := each(text)
		countLists(7, 3, func(picks []int) { hold(t, picks, all) })
	}
}

func TestManyPrograms(t *testing.T) {
	d := dice(20)
	for range 6000 {
		var all [][]act
		for range d.next(5) {
			all = append(all, d.acts(d.next(8), "SSLLUURWWYYP"))
		}
		hold(t, d.picks(d.next(30)), all)
	}
	for range 60 {
		var all [][]act
		for range 60 + d.next(5) {
			all = append(all, d.acts(d.next(30), "SSSSSLUURWYYP"))
		}
		hold(t, d.picks(d.next(2000)), all)
	}
}

// All seven kinds; N and Value don't count where they aren't named.
func TestNumbersThatDoNotCount(t *testing.T) {
	for _, n := range []int{-1, 0, 1, 15, 16, math.MaxInt, math.MinInt} {
		programs := [][]api.Op{
			{{Kind: api.OpStep, N: n, Value: n}, {Kind: api.OpLock, N: 2, Value: n}, {Kind: api.OpUnlock, N: 2, Value: n}, {Kind: api.OpLoad, N: 15, Value: n}, {Kind: api.OpStore, N: 0, Value: 5}, {Kind: api.OpSay, N: n, Value: 9}},
			{{Kind: api.OpPanic, N: n, Value: n}},
		}
		report, e := Play(nil, programs)
		if e != api.ErrPanic || !slices.Equal(report.Order, []int{0, 0, 0, 0, 1}) || !slices.Equal(report.Log, says(0, 9)) || report.Cells[0] != 5 || len(report.Stuck) > 0 {
			t.Errorf("with %d where no number counts: %v %v", n, report, e)
		}
	}
}

// Cells and registers: each cell by itself, each task's register 0 at first, sums modulo 2^64.
func TestCells(t *testing.T) {
	var program []api.Op
	want := make([]int, 16)
	for n := range 16 {
		program = append(program, api.Op{Kind: api.OpStore, N: n, Value: 100 + n})
		want[n] = 100 + n
	}
	report, e := Play(nil, [][]api.Op{program})
	if e != api.OK || !slices.Equal(report.Cells, want) {
		t.Error("a store into each cell", report, e)
	}
	for _, x := range []struct {
		text  string
		cells []int
	}{
		{"W0+7 R0 W1+1;W2+1 R2 W3+0", []int{7, 8, 1, 1}},
		{"W0+3 W0+4 W1+0", []int{4, 0}},
		{"W0+9223372036854775807 R0 W1+1 W2+9223372036854775807", []int{math.MaxInt, math.MinInt, -2}},
		{"W0-9223372036854775808 R0 W1-1 W2-9223372036854775808", []int{math.MinInt, math.MaxInt, 0}},
	} {
		report, e := Play(nil, programsOf(each(x.text)))
		if e != api.OK || !slices.Equal(report.Cells[:len(x.cells)], x.cells) {
			t.Errorf("%s: %v %v", x.text, report.Cells, e)
		}
	}
}

// The cells are told beside each error but ErrTasks, as they are at the end.
func TestCellsBesideErrors(t *testing.T) {
	for text, want := range map[string]api.Errno{"W0+1 P;W1+1": api.ErrPanic, "W0+1 U0;W1+1": api.ErrLock, "W0+1 L0 L0;W1+1": api.ErrDeadlock} {
		report, e := Play(nil, programsOf(each(text)))
		if e != want || len(report.Cells) != 16 || report.Cells[0] != 1 || report.Cells[1] != 1 {
			t.Errorf("%s: %v %v", text, report, e)
		}
	}
}

// What follows: s operations that wait make s + 1 turns; locks taken in rising order only leave nobody stuck.
func TestWhatFollows(t *testing.T) {
	d := dice(7)
	for range 500 {
		var all [][]act
		turns := make([]int, 1+d.next(6))
		for i := range turns {
			var list, back []act
			for lock := range 16 {
				if d.next(4) == 0 {
					list = append(list, act{kind: api.OpLock, n: lock}, d.act("SYRW"))
					back = append(back, act{kind: api.OpUnlock, n: lock})
				}
			}
			list = append(list, back...)
			all = append(all, list)
			turns[i] = 1
			for _, a := range list {
				if a.kind <= api.OpUnlock {
					turns[i]++
				}
			}
		}
		report, e := Play(d.picks(200), programsOf(all))
		if e != api.OK || len(report.Stuck) > 0 {
			t.Fatalf("%v: %v %v", all, report, e)
		}
		for _, number := range report.Order {
			turns[number]--
		}
		if slices.ContainsFunc(turns, func(n int) bool { return n != 0 }) {
			t.Fatalf("%v: the turns %v", all, report.Order)
		}
	}
}
