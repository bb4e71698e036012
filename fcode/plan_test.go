package fcode

import (
	"fmt"
	"math"
	"slices"
	"testing"

	"cullet/api"
)

// P18.6

func samePlan(a, b api.Plan) bool {
	return slices.Equal(a.Missing, b.Missing) && slices.Equal(a.Used, b.Used) && alike(a.Rows, b.Rows) && slices.Equal(a.Logs, b.Logs)
}

// plan: what Plan must answer.
func (s setting) plan(missing []int) api.Plan {
	return api.Plan{Missing: slices.Clone(missing), Logs: s.locator(missing)}
}

func checkPlan(t *testing.T, c *Codec, s setting, missing []int) {
	t.Helper()
	if p, e := c.Plan(missing); e != api.OK || !samePlan(p, s.plan(missing)) {
		t.Errorf("Plan, %v, of %d: %v, %d", s, missing, p, e)
	}
}

// With one parity shard and one loss: the differences to the lost place. With none lost: the places without a shard.
func TestPlanExamples(t *testing.T) {
	for _, x := range []struct {
		s       setting
		missing []int
		logs    []uint16
	}{
		{setting{2, 1}, nil, []uint16{0, 0, 0, 0}},
		{setting{2, 1}, []int{0}, []uint16{0, 0, 43690, 21845}},
		{setting{2, 1}, []int{2}, []uint16{0, 0, 21845, 43690}},
		{setting{2, 2}, []int{}, []uint16{0, 0, 0, 0}},
		{setting{1, 1}, []int{1}, []uint16{0, 0}},
	} {
		for _, c := range x.s.codecs(t) {
			if p, e := c.Plan(x.missing); e != api.OK || !samePlan(p, api.Plan{Missing: x.missing, Logs: x.logs}) {
				t.Errorf("Plan, %v, of %d: %v, %d", x.s, x.missing, p, e)
			}
		}
	}
}

func TestPlanOfEveryLoss(t *testing.T) {
	for _, s := range small() {
		for _, c := range s.codecs(t) {
			for _, missing := range subsets(s.k + s.m) {
				if len(missing) <= s.m {
					checkPlan(t, c, s, missing)
				}
			}
		}
	}
}

func TestPlanOfMiddlingCodes(t *testing.T) {
	d := dice(40)
	for _, s := range middling() {
		for _, c := range s.codecs(t) {
			for _, missing := range append(d.losses(s), nil) {
				checkPlan(t, c, s, missing)
			}
		}
	}
}

// Of great codes logarithms here and there.
func TestPlanOfGreatCodes(t *testing.T) {
	d := dice(41)
	for _, s := range great() {
		c := s.codec(t, backends()[s.k%2])
		for _, missing := range [][]int{nil, d.some(s.m, s.k+s.m), s.parity(), {s.k - 1}} {
			p, e := c.Plan(missing)
			if e != api.OK || !slices.Equal(p.Missing, missing) || len(p.Logs) != s.places() || len(p.Used) != 0 || len(p.Rows) != 0 {
				t.Fatalf("Plan, %v, of %d numbers: %d", s, len(missing), e)
			}
			lost := s.lost(missing)
			for _, at := range []int{0, s.m - 1, s.size() - 1, s.size(), s.size() + s.k - 1, s.places() - 1, d.next(s.places())} {
				if want := long.logs[long.gaps(at, lost)]; int(p.Logs[at]) != want {
					t.Fatalf("Plan, %v, of %d numbers: the logarithm at %d is %d, want %d", s, len(missing), at, p.Logs[at], want)
				}
			}
			if slices.Max(p.Logs) > 65534 {
				t.Errorf("Plan, %v, of %d numbers: a logarithm of 65535", s, len(missing))
			}
		}
	}
}

// planError: each error a question over the whole list.
func (s setting) planError(missing []int) api.Errno {
	for i, number := range missing {
		if number < 0 || number >= s.k+s.m || i > 0 && missing[i-1] >= number {
			return api.ErrRow
		}
	}
	if len(missing) > s.m {
		return api.ErrTooFew
	}
	return api.OK
}

// All lists of up to five numbers from one below the shards' to one above.
func TestPlanOfAllLists(t *testing.T) {
	for _, s := range []setting{{1, 1}, {2, 1}, {1, 2}, {2, 2}} {
		c := s.codec(t, api.Direct)
		for n := range 6 {
			countLists(n, s.k+s.m+2, func(list []int) {
				missing := make([]int, n)
				for i, number := range list {
					missing[i] = number - 1
				}
				handed := slices.Clone(missing)
				p, e := c.Plan(handed)
				if e != s.planError(missing) || !slices.Equal(handed, missing) {
					t.Fatalf("Plan, %v, of %d: %d, or the list is changed", s, missing, e)
				}
				if e != api.OK && !samePlan(p, api.Plan{}) {
					t.Fatalf("Plan, %v, of %d: beside the error %d something is answered", s, missing, e)
				}
			})
		}
	}
}

// Numbers far away, and lists with both errors.
func TestPlanOfWrongNumbers(t *testing.T) {
	for _, s := range append(append(small(), middling()...), great()...) {
		c := s.codec(t, api.Fast)
		n := s.k + s.m
		lists := [][]int{{n}, {n + 1}, {-1}, {0, n}, {-1, 0}, {1, 0}, {0, 0}, append(firstOf(n), n), append(firstOf(n), 0), append([]int{-1}, firstOf(n)...), firstOf(n), firstOf(s.m + 1), firstOf(n + 300), {65536}, {65535, 65536}, {1 << 32}, {0, 1 << 32}, {math.MinInt}, {math.MaxInt}, {math.MinInt, math.MaxInt}, {math.MaxInt, math.MinInt}}
		for _, missing := range lists {
			p, e := c.Plan(missing)
			if e != s.planError(missing) || e == api.OK || !samePlan(p, api.Plan{}) {
				t.Errorf("Plan, %v, of %d numbers: %d", s, len(missing), e)
			}
		}
	}
}

// What is done to a plan, its spare room too, or to the list that was handed in, changes no later plan.
func TestPlanIsNewMemory(t *testing.T) {
	s := setting{5, 4}
	for _, c := range s.codecs(t) {
		for range 4 {
			for _, missing := range [][]int{{1, 3}, {0, 5, 8}, {}, {2}} {
				want := s.plan(missing)
				handed := append(make([]int, 0, 9), missing...)
				p, e := c.Plan(handed)
				if e != api.OK || !samePlan(p, want) {
					t.Fatalf("Plan, %v, of %d: %v, %d", s, missing, p, e)
				}
				spoil(handed, -7)
				if !samePlan(p, want) {
					t.Fatalf("Plan, %v, of %d shares memory with what was handed in", s, missing)
				}
				spoil(p.Missing, -7)
				spoil(p.Logs, 12345)
			}
		}
	}
}

// spoil writes over all that a list holds, its spare room too.
func spoil[E any](list []E, with E) {
	list = list[:cap(list)]
	for i := range list {
		list[i] = with
	}
}

// P18.7

func checkFill(t *testing.T, c *Codec, s setting, p api.Plan, shards [][]byte, span api.Span) {
	t.Helper()
	about, beside := stage(shards), stage(p.Rows)
	p.Rows = beside.shards
	// Words and numbers behind the lists' lengths, which must stay.
	p.Missing, p.Logs = append(slices.Clone(p.Missing), 77)[:len(p.Missing)], append(slices.Clone(p.Logs), 77)[:len(p.Logs)]
	was := api.Plan{Missing: slices.Clone(p.Missing), Used: slices.Clone(p.Used), Rows: copies(p.Rows), Logs: slices.Clone(p.Logs)}
	e := c.Fill(p, about.shards, span)
	if e != api.OK || !alike(about.shards, s.refilled(p.Logs, p.Missing, shards, span)) {
		t.Fatalf("Fill, %v, by %v, %v: %d, or other bytes", s, p, span, e)
	}
	if !about.kept(nil, p.Missing) || !beside.kept(nil, nil) || !samePlan(p, was) || p.Missing[:len(p.Missing)+1][len(p.Missing)] != 77 || p.Logs[:len(p.Logs)+1][len(p.Logs)] != 77 {
		t.Fatalf("Fill, %v, by %v, %v: something else is changed", s, p, span)
	}
}

// By a plan of Plan the codeword's bytes come back, whatever stood there.
func TestFillByPlansOfTheCode(t *testing.T) {
	d := dice(42)
	for _, s := range append(small(), middling()...) {
		for _, c := range s.codecs(t) {
			for range 5 {
				missing := d.some(d.next(s.m+1), s.k+s.m)
				p, _ := c.Plan(missing)
				whole := d.codeword(s, 12)
				shards := copies(whole)
				for _, i := range missing {
					copy(shards[i], d.bytes(12))
				}
				if e := c.Fill(p, shards, api.Span{To: 12}); e != api.OK || !alike(shards, whole) {
					t.Fatalf("Fill, %v, of %d: %d, or other bytes", s, missing, e)
				}
			}
		}
	}
}

// oddLogs: logarithms of all kinds: any, all alike, 0, 65534 and 65535, which is as 0 is.
func (d *dice) oddLogs(n int) [][]uint16 {
	ends := make([]uint16, n)
	for i := range ends {
		ends[i] = []uint16{0, 1, 65534, 65535}[d.next(4)]
	}
	return [][]uint16{d.words(n), ends, make([]uint16, n), slices.Repeat([]uint16{65535}, n), slices.Repeat([]uint16{uint16(d.next(65536))}, n)}
}

// Whatever numbers the logarithms are, and whatever the plan's other lists hold, at every span.
func TestFillByAnyLogs(t *testing.T) {
	d := dice(43)
	for _, s := range append(small(), setting{10, 4}, setting{17, 9}) {
		for _, c := range s.codecs(t) {
			for _, logs := range d.oddLogs(s.places()) {
				for _, span := range spansOf(8) {
					missing := d.some(d.next(s.m+1), s.k+s.m)
					p := api.Plan{Missing: missing, Logs: logs, Used: []int{5, 5, -1}, Rows: [][]byte{{1}, nil, {2, 3}}}
					checkFill(t, c, s, p, d.shards(s.k+s.m, 8), span)
				}
			}
		}
	}
}

// Every set of missing shards of small codes, with any logarithms.
func TestFillOfEverySet(t *testing.T) {
	d := dice(44)
	for _, s := range small() {
		for _, c := range s.codecs(t) {
			for _, missing := range subsets(s.k + s.m) {
				if len(missing) <= s.m {
					checkFill(t, c, s, api.Plan{Missing: missing, Logs: d.words(s.places())}, d.shards(s.k+s.m, 4), api.Span{To: 4})
				}
			}
		}
	}
}

func TestFillOfMiddlingCodesByAnyLogs(t *testing.T) {
	d := dice(45)
	for _, s := range middling() {
		for _, c := range s.codecs(t) {
			for _, logs := range d.oddLogs(s.places()) {
				checkFill(t, c, s, api.Plan{Missing: d.some(1+d.next(s.m), s.k+s.m), Logs: logs}, d.shards(s.k+s.m, 4), api.Span{From: 2, To: 4})
			}
		}
	}
}

// Of great codes shards here and there.
func TestFillOfGreatCodesByAnyLogs(t *testing.T) {
	d := dice(46)
	for _, s := range great() {
		shards := d.shards(s.k+s.m, 4)
		missing := d.some(min(s.m, 7), s.k+s.m)
		present := s.presentBeside(missing)
		p := api.Plan{Missing: missing, Logs: d.words(s.places())}
		from := pick(shards, present)
		for _, c := range s.codecs(t) {
			filled := copies(shards)
			if e := c.Fill(p, filled, api.Span{From: 2, To: 4}); e != api.OK {
				t.Fatalf("Fill, %v: %d", s, e)
			}
			for _, number := range missing {
				row := s.backRow(p.Logs, present, number)
				if wordAt(filled[number], 0) != wordAt(shards[number], 0) || wordAt(filled[number], 1) != sum(row, from, 1) {
					t.Fatalf("Fill, %v: shard %d is %x, want %x", s, number, filled[number], sum(row, from, 1))
				}
			}
			if !alike(pick(filled, present), from) {
				t.Errorf("Fill, %v: a present shard is changed", s)
			}
		}
	}
}

// Long shards, at which Fast works in more than one piece.
func TestFillLongShards(t *testing.T) {
	d := dice(47)
	for _, c := range (setting{3, 3}).codecs(t) {
		checkFill(t, c, setting{3, 3}, api.Plan{Missing: []int{0, 4}, Logs: d.words(8)}, d.shards(6, 140002), api.Span{From: 4, To: 140000})
	}
	for _, c := range (setting{20, 130}).codecs(t) {
		checkFill(t, c, setting{20, 130}, api.Plan{Missing: []int{3, 19, 140}, Logs: d.words(512)}, d.shards(150, 2500), api.Span{From: 6, To: 2500})
	}
}

// A plan of nothing, with nil and with empty lists.
func TestFillOfNothing(t *testing.T) {
	d := dice(48)
	for _, s := range small() {
		for _, c := range s.codecs(t) {
			checkFill(t, c, s, api.Plan{Logs: make([]uint16, s.places())}, d.shards(s.k+s.m, 4), api.Span{To: 4})
			checkFill(t, c, s, api.Plan{Missing: []int{}, Logs: d.words(s.places())}, d.shards(s.k+s.m, 4), api.Span{From: 2, To: 4})
		}
	}
}

// planFits: the promise's questions.
func (s setting) planFits(p api.Plan) bool {
	return s.planError(p.Missing) == api.OK && len(p.Logs) == s.places()
}

// All small plans: of every list of numbers, rising or not, one beside the shards' on each side, with logarithms too few and too many.
func TestFillByAllSmallPlans(t *testing.T) {
	d := dice(49)
	fit := 0
	for _, s := range []setting{{2, 1}, {1, 2}, {2, 2}} {
		for _, c := range s.codecs(t) {
			shards := d.shards(s.k+s.m, 6)
			for n := range 5 {
				countLists(n, s.k+s.m+2, func(list []int) {
					var missing []int
					for _, number := range list {
						missing = append(missing, number-1)
					}
					for _, count := range []int{0, 1, s.places() - 1, s.places(), s.places() + 1, 2 * s.places()} {
						p := api.Plan{Missing: missing, Logs: d.words(count)}
						if s.planFits(p) {
							fit++
							checkFill(t, c, s, p, shards, api.Span{From: 2, To: 4})
							continue
						}
						about := stage(shards)
						if e := c.Fill(p, about.shards, api.Span{From: 2, To: 4}); e != api.ErrPlan || !about.kept(nil, nil) {
							t.Fatalf("Fill, %v, by %v: %d, or something is changed", s, p, e)
						}
					}
				})
			}
		}
	}
	if fit < 20 {
		t.Errorf("only %d of the plans fit", fit)
	}
}

// Plans with one thing wrong, of greater codes; with an empty span too, where nothing would be written.
func TestFillByPlansThatDontFit(t *testing.T) {
	d := dice(50)
	for _, s := range []setting{{3, 2}, {10, 4}, {40, 60}, {65534, 2}} {
		n := s.k + s.m
		good, e := s.codec(t, api.Direct).Plan([]int{1, 3})
		if e != api.OK {
			t.Fatalf("Plan, %v: %d", s, e)
		}
		turns := []func(p *api.Plan){
			func(p *api.Plan) { p.Missing[0] = -1 },
			func(p *api.Plan) { p.Missing[1] = n },
			func(p *api.Plan) { p.Missing[1] = p.Missing[0] },
			func(p *api.Plan) { slices.Reverse(p.Missing) },
			func(p *api.Plan) { p.Missing[1] = math.MaxInt },
			func(p *api.Plan) { p.Missing[0] = math.MinInt },
			func(p *api.Plan) { p.Missing = firstOf(s.m + 1) },
			func(p *api.Plan) { p.Missing = firstOf(n) },
			func(p *api.Plan) { p.Logs = nil },
			func(p *api.Plan) { p.Logs = p.Logs[1:] },
			func(p *api.Plan) { p.Logs = append(p.Logs, 0) },
			func(p *api.Plan) { p.Logs = p.Logs[:len(p.Logs)/2] },
			func(p *api.Plan) { p.Logs = slices.Concat(p.Logs, p.Logs) },
			func(p *api.Plan) { *p = api.Plan{} },
		}
		for _, c := range s.codecs(t) {
			shards := d.shards(n, 4)
			for i, turn := range turns {
				p := api.Plan{Missing: slices.Clone(good.Missing), Logs: slices.Clone(good.Logs)}
				turn(&p)
				if s.planFits(p) {
					t.Fatalf("the plan %d fits", i)
				}
				for _, span := range []api.Span{{To: 4}, {From: 2, To: 2}} {
					about := stage(shards)
					if e := c.Fill(p, about.shards, span); e != api.ErrPlan || !about.kept(nil, nil) {
						t.Errorf("Fill, %v, by the plan %d: %d, or something is changed", s, i, e)
					}
				}
			}
		}
	}
}

// P18.1 and P18.7: the two backends leave the same bytes, of sets that are no codeword, by odd logarithms too.
func TestBackendsAgree(t *testing.T) {
	d := dice(51)
	for range 300 {
		s := setting{1 + d.next(150), 1 + d.next(90)}
		list, n := s.codecs(t), 2*(1+d.next(20))
		shards := d.shards(s.k+s.m, n)
		span := spansOf(n)[d.next(len(spansOf(n)))]
		missing := d.some(d.next(s.m+1), s.k+s.m)
		in := input{shards, d.freshOf(s, d.some(d.next(s.k+1), s.k), n), span, api.Plan{Missing: missing, Logs: d.words(s.places())}}
		for _, f := range everyCall() {
			var left [2][][]byte
			var said [2]string
			for i, c := range list {
				own := in
				own.shards = copies(in.shards)
				if f.gives {
					own.shards = without(own.shards, missing)
				}
				ok, e := f.run(c, own)
				left[i], said[i] = own.shards, fmt.Sprint(ok, e)
			}
			if said[0] != said[1] || !alike(left[0], left[1]) {
				t.Fatalf("%s, %v, of %d bytes: the backends answer %s and %s, or leave other bytes", f.name, s, n, said[0], said[1])
			}
		}
	}
}
