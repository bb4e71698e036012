package crew

import (
	"math/big"
	"slices"
	"testing"

	"cullet/api"
)

// What the tests hold the package against: a model that plays the chapter's words by itself, without goroutines, and sums of math/big.

// hand is a worker of the model.
type hand struct {
	waits string // "beginning", "lock", "unlock", "step", "ended"
	span  int    // the one that it has taken; -1, if it noted that there is none
}

// dealt: which hand does each of so many spans by the picks, and the spans in the order in which they are done.
func dealt(picks []int, workers, spans int) (who, order []int) {
	hands := make([]hand, workers)
	for i := range hands {
		hands[i].waits = "beginning"
	}
	who = slices.Repeat([]int{-1}, spans)
	taken, held := 0, false
	for decision := 0; ; decision++ {
		var can []int
		for i, h := range hands {
			if h.waits != "ended" && !(h.waits == "lock" && held) {
				can = append(can, i)
			}
		}
		if len(can) == 0 {
			return who, order
		}
		pick := 0
		if decision < len(picks) {
			pick = picks[decision]
		}
		number := can[euclid(pick, len(can))]
		h := &hands[number]
		switch h.waits {
		case "beginning":
			h.waits = "lock"
		case "lock":
			held, h.waits, h.span = true, "unlock", -1
			if taken < spans {
				h.span = taken
				taken++
			}
		case "unlock":
			held, h.waits = false, "step"
			if h.span < 0 {
				h.waits = "ended"
			}
		case "step":
			order = append(order, h.span)
			who[h.span] = number
			h.waits = "lock"
		}
	}
}

// euclid: p mod n by big numbers, whose remainder is never below 0.
func euclid(p, n int) int {
	return int(new(big.Int).Mod(big.NewInt(int64(p)), big.NewInt(int64(n))).Int64())
}

// stepBy: how long all spans but the last one are, by big numbers.
func stepBy(length, stripe, align int) *big.Int {
	a, l, most := big.NewInt(int64(align)), big.NewInt(int64(length)), big.NewInt(65536)
	step := new(big.Int).Mul(a, new(big.Int).Div(big.NewInt(int64(stripe)), a))
	if step.Sign() == 0 {
		step.Set(a)
	}
	if new(big.Int).Mul(step, most).Cmp(l) >= 0 {
		return step
	}
	// The least q with q * align * 65536 >= length.
	row := new(big.Int).Mul(a, most)
	q, rest := new(big.Int).DivMod(l, row, new(big.Int))
	if rest.Sign() > 0 {
		q.Add(q, big.NewInt(1))
	}
	return q.Mul(q, a)
}

// spansBy: the spans of that step, by sums that are twice as great as an int may be.
func spansBy(length int, step *big.Int) []api.Span {
	spans := make([]api.Span, 0, 65536)
	for from, l, s := uint64(0), uint64(length), step.Uint64(); from < l; from += s {
		spans = append(spans, api.Span{From: int(from), To: int(min(from+s, l))})
	}
	return spans
}

// firstBad: the run's error, of answers in the order of the spans.
func firstBad(answers []api.Errno) api.Errno {
	for _, answer := range answers {
		if answer != api.OK {
			return answer
		}
	}
	return api.OK
}

// marks: so many spans whose From says which one it is.
func marks(count int) []api.Span {
	spans := make([]api.Span, count)
	for i := range spans {
		spans[i] = api.Span{From: i, To: -i}
	}
	return spans
}

func rising(count int) []int {
	list := make([]int, count)
	for i := range list {
		list[i] = i
	}
	return list
}

// dice gives numbers that look thrown, the same ones each time.
type dice uint64

func (d *dice) next(n int) int {
	*d = *d*6364136223846793005 + 1442695040888963407
	return int(uint64(*d)>>33) % n
}

// picks: some of them, a few below 0, a few far away.
func (d *dice) picks(count, below int) []int {
	list := make([]int, count)
	for i := range list {
		list[i] = d.next(below)
		if d.next(10) == 0 {
			list[i] = -1 - d.next(below)
		}
		if d.next(20) == 0 {
			list[i] = (d.next(2000) - 1000) * 1000000000000003
		}
	}
	return list
}

// answers: mostly OK, so that the first other one stands at any place.
func (d *dice) answers(count, oneOf int) []api.Errno {
	list := make([]api.Errno, count)
	for i := range list {
		if d.next(oneOf) == 0 {
			list[i] = []api.Errno{api.ErrOdd, api.ErrLens, api.ErrPanic, api.ErrWorkers, api.ErrNil, api.ErrLock, -5, 1 << 40}[d.next(8)]
		}
	}
	return list
}

// jobOf: a job that answers, for the span that says i, answers[i]; where that is ErrPanic it panics.
func jobOf(answers []api.Errno) Job {
	return func(span api.Span) api.Errno {
		if answers[span.From] == api.ErrPanic {
			panic(span)
		}
		return answers[span.From]
	}
}

// countLists: all lists of n numbers below base.
func countLists(n, base int, with func(list []int)) {
	list := make([]int, n)
	for {
		with(slices.Clone(list))
		i := 0
		for i < n && list[i] == base-1 {
			list[i] = 0
			i++
		}
		if i == n {
			return
		}
		list[i]++
	}
}

// endsQuietly: the call ends, and doesn't panic.
func endsQuietly(t *testing.T, name string, run func()) {
	t.Helper()
	defer func() {
		if p := recover(); p != nil {
			t.Errorf("%s panics: %v", name, p)
		}
	}()
	run()
}
