package sched

import (
	"fmt"
	"slices"
	"strconv"
	"strings"
	"testing"

	"cullet/api"
)

// What the tests hold the package against is a model that plays the chapter's words by itself, without goroutines: each task is a list of acts, and a place in it.

// act is an operation of a program, or one of the two that the tests have beside them: to put a list of acts off till the task's function ends, and, in such a list, to catch the task's own panic.
type act struct {
	kind, n, value int
	later          []act
}

const (
	putOff   = 101
	catchOwn = 102
)

func (a act) String() string {
	switch a.kind {
	case api.OpStep:
		return "S"
	case api.OpLock:
		return fmt.Sprint("L", a.n)
	case api.OpUnlock:
		return fmt.Sprint("U", a.n)
	case api.OpLoad:
		return fmt.Sprint("R", a.n)
	case api.OpStore:
		return fmt.Sprintf("W%d%+d", a.n, a.value)
	case api.OpSay:
		return fmt.Sprint("Y", a.value)
	case api.OpPanic:
		return "P"
	case putOff:
		return fmt.Sprint("D", a.later)
	}
	return "C"
}

// acts reads the chapter's short form, where D( .. ) is a list that is put off and C catches.
func acts(text string) []act {
	list, rest := actsOf(strings.Fields(text))
	if len(rest) > 0 {
		panic("the test's own text: " + text)
	}
	return list
}

func actsOf(words []string) (list []act, rest []string) {
	for len(words) > 0 {
		word := words[0]
		words = words[1:]
		if word == ")" {
			return list, words
		}
		a := act{kind: kindOf(word)}
		switch a.kind {
		case putOff:
			a.later, words = actsOf(words)
		case api.OpSay:
			a.value = number(word[1:])
		case api.OpStore:
			sign := strings.IndexAny(word, "+-")
			a.n, a.value = number(word[1:sign]), number(word[sign:])
		case api.OpLock, api.OpUnlock, api.OpLoad:
			a.n = number(word[1:])
		}
		list = append(list, a)
	}
	return list, nil
}

func kindOf(word string) int {
	kinds := []int{api.OpStep, api.OpLock, api.OpUnlock, api.OpLoad, api.OpStore, api.OpSay, api.OpPanic, putOff, catchOwn}
	return kinds[strings.IndexByte("SLURWYPDC", word[0])]
}

func number(text string) int {
	n, err := strconv.Atoi(text)
	if err != nil {
		panic(err)
	}
	return n
}

// each: the acts of each task, the tasks' texts parted by semicolons. No text at all: no task.
func each(text string) [][]act {
	if text == "none" {
		return nil
	}
	var all [][]act
	for _, one := range strings.Split(text, ";") {
		all = append(all, acts(one))
	}
	return all
}

func programOf(list []act) []api.Op {
	var program []api.Op
	for _, a := range list {
		program = append(program, api.Op{Kind: a.kind, N: a.n, Value: a.value})
	}
	return program
}

func programsOf(all [][]act) [][]api.Op {
	var programs [][]api.Op
	for _, list := range all {
		programs = append(programs, programOf(list))
	}
	return programs
}

// mishap is what the acts' tasks panic with.
type mishap struct{}

// taskOf: a task that does the acts, with Go's own defer and recover. Being broken off is handed on.
func taskOf(list []act, cells []int) Task {
	return func(t *Turn) {
		register := 0
		for _, a := range list {
			if a.kind != putOff {
				do(t, a, &register, cells)
				continue
			}
			defer func() {
				for _, b := range a.later {
					if b.kind != catchOwn {
						do(t, b, &register, cells)
						continue
					}
					if p := recover(); p != nil && p != any(mishap{}) {
						panic(p)
					}
				}
			}()
		}
	}
}

func do(t *Turn, a act, register *int, cells []int) {
	switch a.kind {
	case api.OpStep:
		t.Step()
	case api.OpLock:
		t.Lock(a.n)
	case api.OpUnlock:
		t.Unlock(a.n)
	case api.OpLoad:
		*register = cells[a.n]
	case api.OpStore:
		cells[a.n] = *register + a.value
	case api.OpSay:
		t.Say(a.value)
	case api.OpPanic:
		panic(mishap{})
	}
}

// runActs: what Run answers for tasks that do these acts, their cells put into the report.
func runActs(picks []int, all [][]act) (api.Report, api.Errno) {
	cells := make([]int, api.MaxCells)
	var tasks []Task
	for _, list := range all {
		tasks = append(tasks, taskOf(list, cells))
	}
	report, e := Run(picks, tasks)
	if len(report.Cells) > 0 {
		panic("Run answers cells")
	}
	report.Cells = cells
	return report, e
}

// actor is a task of the model: it has come to act `at` of its list, and the lists that it has put off are done from the last one on.
type actor struct {
	list     []act
	at       int
	off      [][]act
	waits    int // the kind of the act in which it waits; 0 at its beginning
	lock     int
	register int
	flies    int // how it is unwound: not, by its own panic, or by being broken off
	broken   bool
	ended    bool
}

const (
	byPanic = 1
	byBreak = 2
)

type model struct {
	actors   []*actor
	holders  map[int]int // of a lock that is held
	report   api.Report
	wrong    bool
	panicked bool
}

// played: the report and the answer by the chapter's words.
func played(picks []int, all [][]act) (api.Report, api.Errno) {
	m := &model{holders: map[int]int{}, report: api.Report{Cells: make([]int, api.MaxCells)}}
	for _, list := range all {
		m.actors = append(m.actors, &actor{list: list})
	}
	for decision := 0; ; decision++ {
		can := m.canGoOn()
		if len(can) == 0 {
			break
		}
		pick := 0
		if decision < len(picks) {
			pick = picks[decision]
		}
		at := pick % len(can)
		if at < 0 {
			at += len(can)
		}
		m.turn(can[at])
	}
	for number, a := range m.actors {
		if !a.ended {
			m.report.Stuck = append(m.report.Stuck, number)
			a.breakOff()
			m.goOn(number)
		}
	}
	return m.report, m.answer()
}

func (m *model) answer() api.Errno {
	if m.wrong {
		return api.ErrLock
	}
	if len(m.report.Stuck) > 0 {
		return api.ErrDeadlock
	}
	if m.panicked {
		return api.ErrPanic
	}
	return api.OK
}

func (m *model) canGoOn() []int {
	var can []int
	for number, a := range m.actors {
		_, held := m.holders[a.lock]
		if a.ended || a.waits == api.OpLock && held {
			continue
		}
		can = append(can, number)
	}
	return can
}

func (m *model) turn(number int) {
	m.report.Order = append(m.report.Order, number)
	a := m.actors[number]
	holder, held := m.holders[a.lock]
	if a.waits == api.OpLock {
		m.holders[a.lock] = number
	} else if a.waits == api.OpUnlock && held && holder == number {
		delete(m.holders, a.lock)
	} else if a.waits == api.OpUnlock {
		m.wrong = true
		a.breakOff()
	}
	m.goOn(number)
}

func (a *actor) breakOff() {
	a.broken = true
	a.fly(byBreak)
}

// fly leaves the list that the actor is in; those that are put off are still to be done.
func (a *actor) fly(how int) {
	a.flies = how
	a.list, a.at = nil, 0
}

// goOn does the actor's acts till it waits, or has ended.
func (m *model) goOn(number int) {
	a := m.actors[number]
	for {
		if a.at == len(a.list) {
			last := len(a.off) - 1
			if last < 0 {
				a.ended = true
				m.panicked = m.panicked || a.flies == byPanic
				return
			}
			a.list, a.at, a.off = a.off[last], 0, a.off[:last]
			continue
		}
		a.at++
		if m.waitsIn(number, a.list[a.at-1]) {
			return
		}
	}
}

// waitsIn does one act. Does the actor wait in it?
func (m *model) waitsIn(number int, b act) bool {
	a := m.actors[number]
	switch b.kind {
	case api.OpStep, api.OpLock, api.OpUnlock:
		switch {
		case a.broken:
			a.fly(byBreak)
		case b.kind != api.OpStep && (b.n < 0 || b.n > 15):
			m.wrong = true
			a.breakOff()
		default:
			a.waits, a.lock = b.kind, b.n
			return true
		}
	case api.OpLoad:
		a.register = m.report.Cells[b.n]
	case api.OpStore:
		m.report.Cells[b.n] = a.register + b.value
	case api.OpSay:
		if !a.broken {
			m.report.Log = append(m.report.Log, api.Said{Task: number, Value: b.value})
		}
	case api.OpPanic:
		a.fly(byPanic)
	case putOff:
		a.off = append(a.off, b.later)
	case catchOwn:
		if a.flies == byBreak {
			a.fly(byBreak)
		}
		a.flies &= byBreak
	}
	return false
}

func sameReport(a, b api.Report) bool {
	return slices.Equal(a.Order, b.Order) && slices.Equal(a.Log, b.Log) && slices.Equal(a.Cells, b.Cells) && slices.Equal(a.Stuck, b.Stuck)
}

func isBlank(r api.Report) bool { return len(r.Order)+len(r.Log)+len(r.Cells)+len(r.Stuck) == 0 }

// hold: do the calls answer what the model does? Play is asked where all acts are operations.
func hold(t *testing.T, picks []int, all [][]act) {
	t.Helper()
	want, error1 := played(picks, all)
	if got, e := runActs(picks, all); e != error1 || !sameReport(got, want) {
		t.Fatalf("Run of %v by %v: %v %v; it is to be %v %v", all, picks, got, e, want, error1)
	}
	if !slices.ContainsFunc(all, hasOwnActs) {
		if got, e := Play(picks, programsOf(all)); e != error1 || !sameReport(got, want) {
			t.Fatalf("Play of %v by %v: %v %v; it is to be %v %v", all, picks, got, e, want, error1)
		}
	}
}

func hasOwnActs(list []act) bool {
	return slices.ContainsFunc(list, func(a act) bool { return a.kind > api.OpPanic })
}

// dice gives numbers that look thrown, the same ones each time.
type dice uint64

func (d *dice) next(n int) int {
	*d = *d*6364136223846793005 + 1442695040888963407
	return int(uint64(*d)>>33) % n
}

// picks: some of them, a few below 0, a few far away.
func (d *dice) picks(count int) []int {
	list := make([]int, count)
	for i := range list {
		list[i] = d.next(7) - 1
		if d.next(20) == 0 {
			list[i] = (d.next(2000) - 1000) * 1000003
		}
	}
	return list
}

// act: one of the kinds that are named, over few locks and cells, so that the tasks meet.
func (d *dice) act(letters string) act {
	a := act{kind: kindOf(letters[d.next(len(letters)):])}
	switch a.kind {
	case api.OpLock, api.OpUnlock:
		a.n = d.next(3)
		if d.next(40) == 0 {
			a.n = []int{-1, 15, 16, 1 << 40, -1 << 63}[d.next(5)]
		}
	case api.OpLoad, api.OpStore:
		a.n = d.next(2) * 15
		a.value = d.next(9) - 4
	case api.OpSay:
		a.value = d.next(100) - 50
	case putOff:
		a.later = d.acts(d.next(4), "SLUYRWPCC")
	}
	return a
}

func (d *dice) acts(count int, letters string) []act {
	var list []act
	for range count {
		list = append(list, d.act(letters))
	}
	return list
}

// countLists: all lists of n numbers below base.
func countLists(n, base int, with func(list []int)) {
	list := make([]int, n)
	for {
		with(slices.Clone(list))
		i := 0
		for i < n && list[i] == base-1 {
			list[i] = 0
			i++
		}
		if i == n {
			return
		}
		list[i]++
	}
}

// endsQuietly: the call ends, and doesn't panic.
func endsQuietly(t *testing.T, name string, run func()) {
	t.Helper()
	defer func() {
		if p := recover(); p != nil {
			t.Errorf("%s panics: %v", name, p)
		}
	}()
	run()
}
