package sched

import (
	"slices"

	"cullet/api"
)

// isUnfit: has the program an operation that there isn't?
func isUnfit(program []api.Op) bool {
	return slices.ContainsFunc(program, func(o api.Op) bool {
		switch o.Kind {
		case api.OpLoad, api.OpStore:
			return o.N < 0 || o.N >= api.MaxCells
		}
		return o.Kind < api.OpStep || o.Kind > api.OpPanic
	})
}

// perform is the task that a program is.
func perform(t *Turn, program []api.Op, cells []int) {
	register := 0
	for _, o := range program {
		switch o.Kind {
		case api.OpStep:
			t.Step()
		case api.OpLock:
			t.Lock(o.N)
		case api.OpUnlock:
			t.Unlock(o.N)
		case api.OpLoad:
			register = cells[o.N]
		case api.OpStore:
			cells[o.N] = register + o.Value
		case api.OpSay:
			t.Say(o.Value)
		case api.OpPanic:
			panic("the program says so")
		}
	}
}
