package mcode

import (
	"math"
	"slices"
	"testing"

	"cullet/api"
)

// P17.7

func samePlan(a, b api.Plan) bool {
	return slices.Equal(a.Missing, b.Missing) && slices.Equal(a.Used, b.Used) && alike(a.Rows, b.Rows) && slices.Equal(a.Logs, b.Logs)
}

// plan: what Plan must answer.
func (s setting) plan(missing []int) api.Plan {
	used := s.usedBeside(missing)
	return api.Plan{Missing: slices.Clone(missing), Used: used, Rows: s.backRows(used, missing)}
}

func checkPlan(t *testing.T, c *Codec, s setting, missing []int) {
	t.Helper()
	if p, e := c.Plan(missing); e != api.OK || !samePlan(p, s.plan(missing)) {
		t.Errorf("Plan, %v, of %d: %v, %d", s, missing, p, e)
	}
}

func TestPlanExamples(t *testing.T) {
	c := setting{api.Vander, 2, 1}.codec(t, api.Table)
	c.Plan([]int{0})
	for i, x := range []struct {
		missing []int
		want    api.Plan
		e       api.Errno
		cached  int
	}{
		{[]int{2}, api.Plan{Missing: []int{2}, Used: []int{0, 1}, Rows: [][]byte{{3, 2}}}, api.OK, 2},
		{nil, api.Plan{Used: []int{0, 1}}, api.OK, 2},
		{[]int{}, api.Plan{Used: []int{0, 1}}, api.OK, 2},
		{[]int{0, 1}, api.Plan{}, api.ErrTooFew, 2},
		{[]int{1, 1}, api.Plan{}, api.ErrRow, 2},
		{[]int{0}, api.Plan{Missing: []int{0}, Used: []int{1, 2}, Rows: [][]byte{{245, 244}}}, api.OK, 2},
	} {
		if p, e := c.Plan(x.missing); e != x.e || !samePlan(p, x.want) || c.Cached() != x.cached {
			t.Errorf("Plan, the example %d: %v, %d, Cached %d", i, p, e, c.Cached())
		}
	}
}

// Every loss, asked twice: from the cache it is the same plan.
func TestPlanOfEveryLoss(t *testing.T) {
	for _, s := range small() {
		c := s.codec(t, api.Sliced)
		for _, missing := range subsets(s.k + s.m) {
			if len(missing) <= s.m {
				checkPlan(t, c, s, missing)
				checkPlan(t, c, s, missing)
			}
		}
	}
}

func TestPlanOfGreatCodes(t *testing.T) {
	d := dice(40)
	for _, s := range great() {
		c := s.codec(t, api.Table)
		losses := [][]int{nil, {0}, {s.k + s.m - 1}, firstOf(min(s.k, s.m)), firstOf(s.m), firstOf(s.k + s.m)[s.k:]}
		for range 3 {
			losses = append(losses, d.some(1+d.next(s.m), s.k+s.m))
		}
		for _, missing := range losses {
			checkPlan(t, c, s, missing)
			checkPlan(t, c, s, missing)
		}
	}
}

// planError: each error a question over the whole list.
func (s setting) planError(missing []int) api.Errno {
	for i, number := range missing {
		if number < 0 || number >= s.k+s.m || i > 0 && missing[i-1] >= number {
			return api.ErrRow
		}
	}
	if len(missing) > s.m {
		return api.ErrTooFew
	}
	return api.OK
}

// All lists of up to five numbers from one below the shards' to one above.
func TestPlanOfAllLists(t *testing.T) {
	for _, s := range both([][2]int{{1, 1}, {2, 1}, {1, 2}, {2, 2}}) {
		c := s.codec(t, api.Table)
		for n := range 6 {
			countLists(n, s.k+s.m+2, func(list []int) {
				missing := make([]int, n)
				for i, number := range list {
					missing[i] = number - 1
				}
				handed := slices.Clone(missing)
				was := c.cache.Recent()
				p, e := c.Plan(handed)
				if e != s.planError(missing) || !slices.Equal(handed, missing) {
					t.Fatalf("Plan, %v, of %d: %d, or the list is changed", s, missing, e)
				}
				if e != api.OK && (!samePlan(p, api.Plan{}) || !slices.EqualFunc(c.cache.Recent(), was, slices.Equal)) {
					t.Fatalf("Plan, %v, of %d: beside the error %d something is answered or kept", s, missing, e)
				}
			})
		}
	}
}

// Numbers far away, and lists with both errors.
func TestPlanOfWrongNumbers(t *testing.T) {
	for _, s := range append(small(), great()...) {
		c := s.codec(t, api.Table)
		n := s.k + s.m
		lists := [][]int{{n}, {n + 1}, {-1}, {0, n}, {-1, 0}, {1, 0}, {0, 0}, append(firstOf(n), n), append(firstOf(n), 0), append([]int{-1}, firstOf(n)...), firstOf(n), firstOf(s.m + 1), firstOf(n + 300), {256}, {255, 256}, {1 << 32}, {0, 1 << 32}, {math.MinInt}, {math.MaxInt}, {math.MinInt, math.MaxInt}, {math.MaxInt, math.MinInt}}
		for _, missing := range lists {
			p, e := c.Plan(missing)
			if e != s.planError(missing) || e == api.OK || !samePlan(p, api.Plan{}) || c.Cached() != 0 {
				t.Errorf("Plan, %v, of %d numbers: %d, Cached %d", s, len(missing), e, c.Cached())
			}
		}
	}
}

// What is done to a plan, its spare room too, or to the list that was handed in, changes no later plan; and no two of its lists share memory.
func TestPlanIsNewMemory(t *testing.T) {
	for _, s := range both([][2]int{{5, 4}}) {
		c := s.codec(t, api.Table)
		for range 4 {
			for _, missing := range [][]int{{1, 3}, {0, 5, 8}, {}, {2}} {
				want := s.plan(missing)
				handed := append(make([]int, 0, 9), missing...)
				p, e := c.Plan(handed)
				if e != api.OK || !samePlan(p, want) {
					t.Fatalf("Plan, %v, of %d: %v, %d", s, missing, p, e)
				}
				spoil(handed, -7)
				if !samePlan(p, want) {
					t.Fatalf("Plan, %v, of %d shares memory with what was handed in", s, missing)
				}
				for r, row := range p.Rows {
					spoil(row, 0xA5)
					want.Rows[r] = slices.Repeat([]byte{0xA5}, s.k)
					if !samePlan(p, want) {
						t.Fatalf("Plan, %v, of %d: row %d shares memory with another", s, missing, r)
					}
				}
				spoil(p.Missing, -7)
				want.Missing = slices.Repeat([]int{-7}, len(missing))
				if !samePlan(p, want) {
					t.Fatalf("Plan, %v, of %d: Missing shares memory with another list", s, missing)
				}
				spoil(p.Used, 99)
				spoil(p.Rows, []byte{1})
			}
		}
	}
}

// spoil writes over all that a list holds, its spare room too.
func spoil[E any](list []E, with E) {
	list = list[:cap(list)]
	for i := range list {
		list[i] = with
	}
}

// P17.7 and P17.9: the cache against a plain list of keys, the last used one first.

type uses struct{ keys [][]int }

func (u *uses) use(key []int) {
	u.keys = slices.DeleteFunc(u.keys, func(other []int) bool { return slices.Equal(other, key) })
	u.keys = append([][]int{slices.Clone(key)}, u.keys...)
	u.keys = u.keys[:min(len(u.keys), 16)]
}

func TestCacheByAScriptOfCalls(t *testing.T) {
	d := dice(41)
	for _, s := range both([][2]int{{4, 3}, {12, 8}}) {
		c, model := s.codec(t, api.Sliced), &uses{}
		n := s.k + s.m
		for step := range 3000 {
			missing := d.some(d.next(s.m+2), n)
			if d.next(2) == 0 {
				missing = d.some(1, n)
			}
			whole := d.codeword(s, 2)
			used := len(missing) > 0 && len(missing) <= s.m
			switch d.next(6) {
			case 0, 1:
				p, e := c.Plan(missing)
				if used && (e != api.OK || !samePlan(p, s.plan(missing))) {
					t.Fatalf("Plan, %v, of %d at the step %d: %v, %d", s, missing, step, p, e)
				}
			case 2, 3:
				w := ways()[d.next(2)]
				if len(missing) <= s.m {
					checkRestore(t, w, c, s, whole, missing, whole)
				} else {
					w.run(c, without(whole, missing))
				}
			case 4:
				used = false
				c.Plan([]int{3, 3})
				c.Reconstruct(append(without(whole, missing), nil))
			default:
				used = false
				c.Encode(whole)
				c.Verify(whole)
				c.Update(whole, d.shards(s.k, 2))
				c.Fill(s.plan(d.some(1, n)), whole, api.Span{To: 2})
			}
			if used {
				model.use(missing)
			}
			if c.Cached() != len(model.keys) || !slices.EqualFunc(c.cache.Recent(), model.keys, slices.Equal) {
				t.Fatalf("%v, step %d: Cached %d, the cache has %v, want %v", s, step, c.Cached(), c.cache.Recent(), model.keys)
			}
		}
	}
}

// The room is for sixteen; the one used least lately goes.
func TestCacheHasRoomForSixteen(t *testing.T) {
	c := setting{api.Cauchy, 40, 1}.codec(t, api.Table)
	for i := range 41 {
		if _, e := c.Plan([]int{i}); e != api.OK || c.Cached() != min(i+1, 16) {
			t.Fatalf("Plan of %d: %d, Cached %d", i, e, c.Cached())
		}
	}
	c.Plan([]int{25})
	c.Plan([]int{0})
	if keys := c.cache.Recent(); !slices.Equal(keys[0], []int{0}) || !slices.Equal(keys[1], []int{25}) || !slices.Equal(keys[15], []int{27}) {
		t.Errorf("the cache has %v", keys)
	}
}

// A loss that the cache has isn't worked out again: what stands there is what is answered.
func TestCacheIsAsked(t *testing.T) {
	s := setting{api.Vander, 3, 2}
	c := s.codec(t, api.Table)
	c.Plan([]int{1})
	c.cache.Put([]int{1}, [][]byte{{9, 8, 7}})
	if p, e := c.Plan([]int{1}); e != api.OK || !alike(p.Rows, [][]byte{{9, 8, 7}}) {
		t.Errorf("Plan: %v, %d", p, e)
	}
}

// P17.8

func checkFill(t *testing.T, c *Codec, s setting, p api.Plan, shards [][]byte, span api.Span) {
	t.Helper()
	about, beside := stage(shards), stage(p.Rows)
	p.Rows = beside.shards
	was := api.Plan{Missing: slices.Clone(p.Missing), Used: slices.Clone(p.Used), Rows: copies(p.Rows), Logs: slices.Clone(p.Logs)}
	e := c.Fill(p, about.shards, span)
	want := filled(shards, p.Missing, p.Rows, pick(shards, p.Used), span)
	if e != api.OK || !alike(about.shards, want) {
		t.Fatalf("Fill, %v, by %v, %v: %d, or other bytes", s, p, span, e)
	}
	if !about.kept(nil, p.Missing) || !beside.kept(nil, nil) || !samePlan(p, was) {
		t.Fatalf("Fill, %v, by %v, %v: something else is changed", s, p, span)
	}
}

// By a plan of Plan the codeword's bytes come back, whatever stood there.
func TestFillByPlansOfTheCode(t *testing.T) {
	d := dice(42)
	for _, s := range append(small(), great()...) {
		for _, c := range s.codecs(t) {
			for range 5 {
				missing := d.some(d.next(s.m+1), s.k+s.m)
				p, _ := c.Plan(missing)
				whole := d.codeword(s, 12)
				shards := copies(whole)
				for _, i := range missing {
					copy(shards[i], d.bytes(12))
				}
				was := c.cache.Recent()
				if e := c.Fill(p, shards, api.Span{To: 12}); e != api.OK || !alike(shards, whole) {
					t.Fatalf("Fill, %v, of %d: %d, or other bytes", s, missing, e)
				}
				if !slices.EqualFunc(c.cache.Recent(), was, slices.Equal) {
					t.Fatalf("Fill, %v: the cache is changed", s)
				}
			}
		}
	}
}

// Any factors, any numbers that fit, every span.
func TestFillByAnyPlans(t *testing.T) {
	d := dice(43)
	for _, s := range append(small(), both([][2]int{{10, 4}})...) {
		for _, c := range s.codecs(t) {
			for _, span := range spansOf(9) {
				numbers := d.some(s.k+d.next(s.m+1), s.k+s.m)
				p := api.Plan{Logs: []uint16{1, 2, 3}}
				chosen := d.some(s.k, len(numbers))
				for i, number := range numbers {
					if slices.Contains(chosen, i) {
						p.Used = append(p.Used, number)
					} else {
						p.Missing = append(p.Missing, number)
						p.Rows = append(p.Rows, d.bytes(s.k))
					}
				}
				checkFill(t, c, s, p, d.shards(s.k+s.m, 9), span)
			}
		}
	}
}

// A plan of nothing, with nil and with empty lists.
func TestFillOfNothing(t *testing.T) {
	d := dice(44)
	for _, s := range small() {
		c := s.codec(t, api.Table)
		checkFill(t, c, s, api.Plan{Used: firstOf(s.k)}, d.shards(s.k+s.m, 4), api.Span{To: 4})
		checkFill(t, c, s, api.Plan{Missing: []int{}, Used: firstOf(s.k + s.m)[s.m:], Rows: [][]byte{}}, d.shards(s.k+s.m, 4), api.Span{From: 2, To: 3})
	}
}

// planFits: the promise's four questions.
func (s setting) planFits(p api.Plan) bool {
	for _, list := range [][]int{p.Missing, p.Used} {
		for i, number := range list {
			if number < 0 || number >= s.k+s.m || i > 0 && list[i-1] >= number {
				return false
			}
		}
	}
	for _, number := range p.Used {
		if slices.Contains(p.Missing, number) {
			return false
		}
	}
	for _, row := range p.Rows {
		if len(row) != s.k {
			return false
		}
	}
	return len(p.Used) == s.k && len(p.Rows) == len(p.Missing)
}

func rowsOf(lengths ...int) [][]byte { return shardsOf(lengths...) }

// All small plans: of every list of numbers, rising or not, one beside the shards' on each side, and of rows too few, too many, too short and too long.
func TestFillByAllSmallPlans(t *testing.T) {
	d := dice(45)
	fit := 0
	for _, s := range both([][2]int{{2, 1}, {1, 2}}) {
		c := s.codec(t, api.Nibble)
		shards := d.shards(3, 4)
		for _, counts := range [][2]int{{0, 1}, {0, 2}, {1, 0}, {1, 1}, {1, 2}, {2, 1}, {2, 2}, {1, 3}, {3, 1}} {
			countLists(counts[0]+counts[1], 5, func(list []int) {
				var numbers []int
				for _, n := range list {
					numbers = append(numbers, n-1)
				}
				for _, rows := range [][][]byte{nil, rowsOf(s.k), rowsOf(s.k, s.k), rowsOf(s.k, s.k, s.k), rowsOf(s.k - 1), rowsOf(s.k + 1), rowsOf(s.k, s.k-1), rowsOf(s.k+1, s.k)} {
					p := api.Plan{Missing: numbers[:counts[0]], Used: numbers[counts[0]:], Rows: rows}
					if s.planFits(p) {
						fit++
						checkFill(t, c, s, p, shards, api.Span{From: 1, To: 3})
						continue
					}
					about := stage(shards)
					if e := c.Fill(p, about.shards, api.Span{From: 1, To: 3}); e != api.ErrPlan || !about.kept(nil, nil) {
						t.Fatalf("Fill, %v, by %v: %d, or something is changed", s, p, e)
					}
				}
			})
		}
	}
	if fit < 20 {
		t.Errorf("only %d of the plans fit", fit)
	}
}

// Plans with one thing wrong, of greater codes; with an empty span too, where nothing would be written.
func TestFillByPlansThatDontFit(t *testing.T) {
	d := dice(46)
	for _, s := range both([][2]int{{3, 2}, {10, 4}, {128, 128}}) {
		c := s.codec(t, api.Table)
		n := s.k + s.m
		turns := []func(p *api.Plan){
			func(p *api.Plan) { p.Missing[0] = -1 },
			func(p *api.Plan) { p.Missing[1] = n },
			func(p *api.Plan) { p.Missing[1] = p.Missing[0] },
			func(p *api.Plan) { slices.Reverse(p.Missing) },
			func(p *api.Plan) { p.Missing = p.Missing[:1] },
			func(p *api.Plan) { p.Missing[1] = math.MaxInt },
			func(p *api.Plan) { p.Missing[0] = math.MinInt },
			func(p *api.Plan) { p.Missing = nil },
			func(p *api.Plan) { p.Used[0] = -1 },
			func(p *api.Plan) { p.Used[s.k-1] = n },
			func(p *api.Plan) { p.Used[1] = p.Used[0] },
			func(p *api.Plan) { slices.Reverse(p.Used) },
			func(p *api.Plan) { p.Used = p.Used[1:] },
			func(p *api.Plan) { p.Used = append(p.Used, n-1) },
			func(p *api.Plan) { p.Used = nil },
			func(p *api.Plan) { p.Used[0] = p.Missing[0] },
			func(p *api.Plan) { p.Missing[1] = p.Used[s.k-1] },
			func(p *api.Plan) { p.Used[s.k-1] = math.MaxInt },
			func(p *api.Plan) { p.Used[0] = math.MinInt },
			func(p *api.Plan) { p.Rows = nil },
			func(p *api.Plan) { p.Rows = p.Rows[:1] },
			func(p *api.Plan) { p.Rows = append(p.Rows, d.bytes(s.k)) },
			func(p *api.Plan) { p.Rows[1] = d.bytes(s.k + 1) },
			func(p *api.Plan) { p.Rows[0] = d.bytes(s.k - 1) },
			func(p *api.Plan) { p.Rows[1] = nil },
			func(p *api.Plan) { *p = api.Plan{} },
			func(p *api.Plan) { *p = api.Plan{Missing: firstOf(n), Rows: d.shards(n, s.k)} },
			func(p *api.Plan) { *p = api.Plan{Used: firstOf(n)} },
		}
		for i, turn := range turns {
			p := s.plan([]int{1, 3})
			turn(&p)
			if s.planFits(p) {
				t.Fatalf("the plan %d fits", i)
			}
			for _, span := range []api.Span{{To: 4}, {From: 2, To: 2}} {
				about := stage(d.shards(n, 4))
				if e := c.Fill(p, about.shards, span); e != api.ErrPlan || !about.kept(nil, nil) {
					t.Errorf("Fill, %v, by the plan %d: %d, or something is changed", s, i, e)
				}
			}
		}
	}
}

// P17.9

func TestCachedAtFirst(t *testing.T) {
	for _, s := range small() {
		for _, c := range s.codecs(t) {
			if n := c.Cached(); n != 0 {
				t.Errorf("Cached, %v, of a new codec: %d", s, n)
			}
		}
	}
	var none *Codec
	if n := none.Cached(); n != 0 {
		t.Errorf("Cached of a nil codec: %d", n)
	}
}
