package fcode

import (
	"bytes"
	"slices"
	"sync"
	"testing"

	"cullet/api"
)

// What holds for all calls: P1, P8 and the document's rules.

// input: what the calls are given; each takes its part.
type input struct {
	shards, fresh [][]byte
	span          api.Span
	plan          api.Plan
}

// call: one that works on shards, whether it answers true, and its error by the promises.
type call struct {
	name string
	run  func(c *Codec, in input) (bool, api.Errno)
	want func(s setting, in input) api.Errno

	gives bool // of the two that give back
}

func everyCall() []call {
	plain := func(run func(c *Codec, in input) api.Errno) func(c *Codec, in input) (bool, api.Errno) {
		return func(c *Codec, in input) (bool, api.Errno) { return false, run(c, in) }
	}
	return []call{
		{"Encode", plain(func(c *Codec, in input) api.Errno { return c.Encode(in.shards) }), setting.wholeError, false},
		{"EncodeSpan", plain(func(c *Codec, in input) api.Errno { return c.EncodeSpan(in.shards, in.span) }), ranged(setting.wholeError), false},
		{"Verify", func(c *Codec, in input) (bool, api.Errno) { return c.Verify(in.shards) }, setting.wholeError, false},
		{"VerifySpan", func(c *Codec, in input) (bool, api.Errno) { return c.VerifySpan(in.shards, in.span) }, ranged(setting.wholeError), false},
		{"Reconstruct", plain(func(c *Codec, in input) api.Errno { return c.Reconstruct(in.shards) }), setting.partialError, true},
		{"ReconstructData", plain(func(c *Codec, in input) api.Errno { return c.ReconstructData(in.shards) }), setting.partialError, true},
		{"Update", plain(func(c *Codec, in input) api.Errno { return c.Update(in.shards, in.fresh) }), setting.freshError, false},
		{"UpdateSpan", plain(func(c *Codec, in input) api.Errno { return c.UpdateSpan(in.shards, in.fresh, in.span) }), ranged(setting.freshError), false},
		{"Fill", plain(func(c *Codec, in input) api.Errno { return c.Fill(in.plan, in.shards, in.span) }), func(s setting, in input) api.Errno {
			if e := ranged(setting.wholeError)(s, in); e != api.OK || s.planFits(in.plan) {
				return e
			}
			return api.ErrPlan
		}, false},
	}
}

// kinds: the lengths that there are, but 0; each one once, rising.
func kinds(lists ...[][]byte) []int {
	var found []int
	for _, shard := range slices.Concat(lists...) {
		if len(shard) > 0 {
			found = append(found, len(shard))
		}
	}
	slices.Sort(found)
	return slices.Compact(found)
}

func empties(shards [][]byte) int {
	count := 0
	for _, shard := range shards {
		if len(shard) == 0 {
			count++
		}
	}
	return count
}

func (s setting) wholeError(in input) api.Errno {
	switch {
	case len(in.shards) != s.k+s.m:
		return api.ErrCount
	case empties(in.shards) > 0:
		return api.ErrEmpty
	case len(kinds(in.shards)) > 1:
		return api.ErrUneven
	case kinds(in.shards)[0]%2 == 1:
		return api.ErrOdd
	}
	return api.OK
}

func (s setting) partialError(in input) api.Errno {
	switch {
	case len(in.shards) != s.k+s.m:
		return api.ErrCount
	case empties(in.shards) == s.k+s.m:
		return api.ErrEmpty
	case len(kinds(in.shards)) > 1:
		return api.ErrUneven
	case kinds(in.shards)[0]%2 == 1:
		return api.ErrOdd
	case s.k+s.m-empties(in.shards) < s.k:
		return api.ErrTooFew
	}
	return api.OK
}

func (s setting) freshError(in input) api.Errno {
	switch {
	case len(in.shards) != s.k+s.m || len(in.fresh) != s.k:
		return api.ErrCount
	case empties(in.shards) > 0:
		return api.ErrEmpty
	case len(kinds(in.shards, in.fresh)) > 1:
		return api.ErrUneven
	case kinds(in.shards)[0]%2 == 1:
		return api.ErrOdd
	}
	return api.OK
}

// ranged: the errors, and behind them ErrRange.
func ranged(first func(s setting, in input) api.Errno) func(s setting, in input) api.Errno {
	return func(s setting, in input) api.Errno {
		if e := first(s, in); e != api.OK || isWithin(in.span, len(in.shards[0])) {
			return e
		}
		return api.ErrRange
	}
}

// checkError: the call's error is the promises' one; beside an error nothing is answered and nothing changed.
func checkError(t *testing.T, f call, c *Codec, s setting, in input) {
	t.Helper()
	about, beside := stage(in.shards), stage(in.fresh)
	staged := in
	staged.shards, staged.fresh = about.shards, beside.shards
	ok, e := f.run(c, staged)
	if want := f.want(s, in); e != want {
		t.Fatalf("%s, %v, spans %v, %d shards: %d, want %d", f.name, s, in.span, len(in.shards), e, want)
	}
	if e == api.OK {
		return
	}
	if ok || !about.kept(nil, nil) || !beside.kept(nil, nil) {
		t.Fatalf("%s, %v, span %v, %d shards: beside the error %d something is answered or changed", f.name, s, in.span, len(in.shards), e)
	}
}

// All short lists of shards of lengths 0 to 4, with good and bad spans, fresh lists and plans.
func TestErrorsOfAllShortLists(t *testing.T) {
	for i, s := range []setting{{2, 1}, {1, 2}} {
		c := s.codec(t, backends()[i])
		freshLists := [][][]byte{nil, shardsOf(2), shardsOf(0, 2), shardsOf(1, 0), shardsOf(1), shardsOf(0, 0), shardsOf(0), shardsOf(3, 2), shardsOf(3), shardsOf(0, 4), shardsOf(2, 2, 2)}
		plans := []api.Plan{{}, s.plan([]int{2}), {Logs: make([]uint16, 4)}, {Missing: []int{0, 0}, Logs: make([]uint16, 4)}}
		spans := []api.Span{{To: 2}, {From: 2, To: 4}, {From: 2, To: 0}, {From: 0, To: 1}, {From: 1, To: 2}, {From: -2, To: 2}, {From: 0, To: 6}}
		for n := range 5 {
			countLists(n, 5, func(lengths []int) {
				for i := range freshLists {
					span, plan := spans[(len(lengths)+i)%len(spans)], plans[i%len(plans)]
					in := input{shardsOf(lengths...), freshLists[i], span, plan}
					for _, f := range everyCall() {
						checkError(t, f, c, s, in)
					}
				}
				for j, span := range spans {
					in := input{shardsOf(lengths...), shardsOf(make([]int, s.k)...), span, plans[j%len(plans)]}
					for _, f := range everyCall() {
						checkError(t, f, c, s, in)
					}
				}
			})
		}
	}
}

// Every bad span, where all else is right and where the plan is wrong too; and where the shards have an error that stands ahead.
func TestErrorsOfBadSpans(t *testing.T) {
	d := dice(60)
	for _, s := range append(small(), setting{10, 4}, setting{60, 20}) {
		for _, c := range s.codecs(t) {
			for _, n := range []int{2, 6} {
				good := input{shards: d.shards(s.k+s.m, n), fresh: d.shards(s.k, n), plan: s.plan([]int{0})}
				for _, span := range badSpans(n) {
					good.span = span
					uneven, noPlan, empty, odd := good, good, good, good
					uneven.shards = append(d.shards(s.k+s.m-1, n), d.bytes(n+2))
					empty.shards = without(good.shards, []int{s.k + s.m - 1})
					odd.shards, odd.fresh = d.shards(s.k+s.m, n+1), d.shards(s.k, n+1)
					noPlan.plan = api.Plan{}
					for _, f := range everyCall() {
						for _, in := range []input{good, uneven, noPlan, empty, odd} {
							checkError(t, f, c, s, in)
						}
					}
				}
			}
		}
	}
}

// Of codes with many shards: a shard too few, one too many, one empty, one of another length, each at several places; all of an odd length.
func TestErrorsOfManyShards(t *testing.T) {
	d := dice(61)
	for _, s := range append(middling(), setting{3000, 70}) {
		c := s.codec(t, api.Fast)
		n := s.k + s.m
		p, _ := c.Plan([]int{0})
		whole := d.shards(n, 4)
		sets := [][][]byte{nil, whole[:n-1], append(slices.Clone(whole), d.bytes(4)), without(whole, firstOf(n)), without(whole, firstOf(s.m+1)), without(whole, between(s.k-1, n)), without(whole, firstOf(n-1)), d.shards(n, 3), d.shards(n, 1)}
		for _, at := range []int{0, 1, s.k - 1, s.k, n - 1} {
			for _, length := range []int{5, 3, 2, 6} {
				sets = append(sets, slices.Concat(whole[:at], [][]byte{d.bytes(length)}, whole[at+1:]))
			}
		}
		for _, shards := range sets {
			checkRefused(t, c, s, input{shards: shards, fresh: d.shards(s.k, 4), span: api.Span{To: 4}, plan: p})
		}
		for _, fresh := range [][][]byte{nil, d.shards(s.k-1, 4), d.shards(s.k+1, 4), d.shards(s.k, 5), append(d.shards(s.k-1, 4), d.bytes(2)), d.shards(s.k, 2)} {
			checkRefused(t, c, s, input{shards: whole, fresh: fresh, span: api.Span{To: 4}, plan: p})
		}
	}
}

// checkRefused: of those calls that refuse it.
func checkRefused(t *testing.T, c *Codec, s setting, in input) {
	t.Helper()
	for _, f := range everyCall() {
		if f.want(s, in) != api.OK {
			checkError(t, f, c, s, in)
		}
	}
}

// ErrNil is ahead of all others.
func TestNilCodec(t *testing.T) {
	var none *Codec
	d := dice(62)
	good := [][]byte{{1, 0}, {2, 1}, {3, 1}}
	for _, shards := range [][][]byte{nil, {}, {nil}, good, {{5, 0}, nil, {1, 2}}, {{1}, {2, 3}}} {
		for _, span := range append(badSpans(2), spansOf(2)...) {
			for _, f := range everyCall() {
				about := stage(shards)
				in := input{about.shards, d.shards(2, 2), span, setting{2, 1}.plan([]int{0})}
				if ok, e := f.run(none, in); ok || e != api.ErrNil || !about.kept(nil, nil) {
					t.Fatalf("%s of a nil codec: %v, %d, or something is changed", f.name, ok, e)
				}
			}
		}
	}
	for _, missing := range [][]int{nil, {}, {0}, {1, 1}, {-1}, firstOf(300)} {
		if p, e := none.Plan(missing); e != api.ErrNil || !samePlan(p, api.Plan{}) {
			t.Errorf("Plan of a nil codec: %v, %d", p, e)
		}
	}
}

// Of a zero struct, and of a copy, only that their calls end is promised.
func TestCodecsMadeOtherwise(t *testing.T) {
	s := setting{2, 1}
	one, other := *s.codec(t, api.Direct), *s.codec(t, api.Fast)
	for _, c := range []*Codec{{}, &one, &other} {
		for _, shards := range [][][]byte{nil, {}, {nil}, shardsOf(2, 2, 2), shardsOf(2, 0, 2), shardsOf(0, 0, 0), shardsOf(1, 2, 2), shardsOf(1, 1, 1)} {
			for _, span := range append(badSpans(2), spansOf(2)...) {
				for _, f := range everyCall() {
					endsQuietly(t, f.name, func() { f.run(c, input{copies(shards), shardsOf(2, 2), span, s.plan([]int{0})}) })
					endsQuietly(t, f.name, func() { f.run(c, input{copies(shards), nil, span, api.Plan{}}) })
				}
			}
		}
		for _, missing := range [][]int{nil, {0}, {2}, {0, 1}, {-1}, {1, 1}} {
			endsQuietly(t, "Plan", func() { c.Plan(missing) })
		}
	}
}

// Shards that share memory with one another or with the fresh ones: the calls end with OK, and no byte outside of them is changed.
func TestShardsThatShareMemory(t *testing.T) {
	for _, s := range []setting{{3, 2}, {1, 3}} {
		for _, c := range s.codecs(t) {
			for _, step := range []int{0, 1, 2, 7, 8} {
				for _, missing := range [][]int{nil, {0}, {s.k}, {1, 3}} {
					for _, f := range everyCall() {
						array := dealt(80)
						was := bytes.Clone(array)
						var shards [][]byte
						for i := range s.k + s.m {
							shards = append(shards, array[20+i*step:20+i*step+18])
						}
						in := input{shards: shards, fresh: shards[:s.k], span: api.Span{From: 2, To: 16}, plan: s.plan([]int{1, 3})}
						if f.gives {
							in.shards = without(shards, missing)
						}
						endsQuietly(t, f.name, func() {
							if _, e := f.run(c, in); e != api.OK {
								t.Errorf("%s, %v, shards %d bytes from one another: %d", f.name, s, step, e)
							}
						})
						end := 20 + (s.k+s.m-1)*step + 18
						if !bytes.Equal(array[:20], was[:20]) || !bytes.Equal(array[end:], was[end:]) {
							t.Errorf("%s, %v, shards %d bytes from one another: a byte outside of them is changed", f.name, s, step)
						}
					}
				}
			}
		}
	}
}

// dealt: n bytes, the same ones each time.
func dealt(n int) []byte {
	d := dice(63)
	return d.bytes(n)
}

// Shards one behind another in one array: each lies in the others' spare room, and that is no sharing.
func TestShardsOfOneArray(t *testing.T) {
	d := dice(64)
	for _, s := range append(small(), middling()...) {
		for _, c := range s.codecs(t) {
			const length = 14
			n := s.k + s.m
			array := d.bytes(n * length)
			// The last shard first, so that data lie behind parity.
			var shards [][]byte
			for i := range n {
				shards = append(shards, array[(n-1-i)*length:(n-i)*length])
			}
			want := s.encoded(shards, api.Span{To: length})
			if e := c.Encode(shards); e != api.OK || !alike(shards, want) {
				t.Fatalf("Encode, %v, shards of one array: %d, or other bytes", s, e)
			}
			fresh := d.shards(s.k, length)
			updated := s.updated(shards, fresh, api.Span{From: 4, To: 10})
			if e := c.UpdateSpan(shards, fresh, api.Span{From: 4, To: 10}); e != api.OK || !alike(shards, updated) {
				t.Fatalf("UpdateSpan, %v, shards of one array: %d, or other bytes", s, e)
			}
			c.Encode(shards)
			was := bytes.Clone(array)
			lost := slices.Clone(shards)
			lost[0] = lost[0][:0]
			if e := c.Reconstruct(lost); e != api.OK || !alike(lost, want) || !bytes.Equal(array, was) {
				t.Fatalf("Reconstruct, %v, shards of one array: %d, or other bytes", s, e)
			}
			p, _ := c.Plan([]int{n - 1})
			clear(shards[n-1])
			if e := c.Fill(p, shards, api.Span{To: length}); e != api.OK || !bytes.Equal(array, was) {
				t.Fatalf("Fill, %v, shards of one array: %d, or other bytes", s, e)
			}
		}
	}
}

// What a call answers and writes depends neither on the calls ahead of it nor on the backend: a codec changes by no call.
func TestNothingIsKept(t *testing.T) {
	d := dice(65)
	s := setting{5, 4}
	old := s.codecs(t)
	for round := range 200 {
		missing := d.some(1+d.next(4), 9)
		whole := d.shards(9, 8)
		in := input{fresh: d.freshOf(s, d.some(d.next(6), 5), 8), span: spansOf(8)[d.next(15)], plan: api.Plan{Missing: missing, Logs: d.words(16)}}
		for _, f := range everyCall() {
			in.shards = whole
			if f.gives {
				in.shards = without(whole, missing)
			}
			want := in
			want.shards = copies(in.shards)
			ok, e := f.run(s.codec(t, backends()[round%2]), want)
			for _, c := range old {
				have := in
				have.shards = copies(in.shards)
				if got, err := f.run(c, have); got != ok || err != e || !alike(have.shards, want.shards) {
					t.Fatalf("%s, %v, round %d: another answer behind other calls", f.name, s, round)
				}
				if p, e := c.Plan(missing); e != api.OK || !samePlan(p, s.plan(missing)) {
					t.Fatalf("Plan, %v, round %d: another answer behind other calls", s, round)
				}
			}
			if !f.gives {
				whole = want.shards
			}
		}
	}
}

// What was handed in is the caller's behind the call: what is done to it is not seen, and nothing is done to it.
func TestArgumentsAreNotKept(t *testing.T) {
	d := dice(66)
	s := setting{4, 3}
	for _, c := range s.codecs(t) {
		for range 20 {
			whole := d.codeword(s, 8)
			lost := without(copies(whole), []int{1, 5})
			fresh := d.shards(s.k, 8)
			first := copies(whole)
			missing := []int{1, 5}
			p, _ := c.Plan(missing)
			c.Encode(first)
			c.Update(first, fresh)
			c.Reconstruct(lost)
			c.Fill(p, first, api.Span{To: 8})
			handed := slices.Concat(first, lost, fresh)
			for _, shard := range handed {
				spoil(shard, 0xA5)
			}
			spoil(missing, 0)
			spoil(p.Missing, 0)
			spoil(p.Logs, 7)
			again := without(whole, []int{1, 5})
			if e := c.Reconstruct(again); e != api.OK || !alike(again, whole) {
				t.Fatalf("Reconstruct, %v, behind lists that were written over: %d, or other bytes", s, e)
			}
			for _, shard := range handed {
				if !bytes.Equal(shard, bytes.Repeat([]byte{0xA5}, 8)) {
					t.Fatalf("%v: a later call has changed an earlier one's lists", s)
				}
			}
		}
	}
}

// EncodeSpan, VerifySpan, UpdateSpan and Fill at one time on one codec, within spans that lie beside one another (the race detector's test too).
func TestCompany(t *testing.T) {
	d := dice(67)
	for _, s := range []setting{{4, 3}, {30, 20}} {
		for _, c := range s.codecs(t) {
			const width, parts = 62, 12
			const length = width * parts
			whole := d.codeword(s, length)
			encoded := append(copies(whole[:s.k]), d.shards(s.m, length)...)
			turned, fresh := copies(whole), d.freshOf(s, []int{0, 3}, length)
			want := s.updated(turned, fresh, api.Span{To: length})
			broken := copies(whole)
			clear(broken[2])
			clear(broken[5])
			p, _ := c.Plan([]int{2, 5})
			var all sync.WaitGroup
			start := func(name string, run func() (bool, api.Errno)) {
				all.Go(func() {
					if ok, e := run(); !ok || e != api.OK {
						t.Errorf("%s in company: %v, %d", name, ok, e)
					}
				})
			}
			for i := range parts {
				span := api.Span{From: i * width, To: (i + 1) * width}
				start("EncodeSpan", func() (bool, api.Errno) { return true, c.EncodeSpan(encoded, span) })
				start("VerifySpan", func() (bool, api.Errno) { return c.VerifySpan(whole, span) })
				start("UpdateSpan", func() (bool, api.Errno) { return true, c.UpdateSpan(turned, fresh, span) })
				start("Fill", func() (bool, api.Errno) { return true, c.Fill(p, broken, span) })
			}
			all.Wait()
			if !alike(encoded, whole) || !alike(turned, want) || !alike(broken, whole) {
				t.Errorf("%v in company: other bytes", s)
			}
		}
	}
}

// A call within a span reads no byte beside it: others may write them at that time (the race detector's test).
func TestSpansOfTheSameShards(t *testing.T) {
	d := dice(68)
	s := setting{3, 2}
	for _, c := range s.codecs(t) {
		const width, parts = 10, 9
		shards, fresh := d.shards(s.k+s.m, width*parts), d.shards(s.k, width*parts)
		p, _ := c.Plan([]int{0, 4})
		var all sync.WaitGroup
		for i := range parts {
			all.Go(func() {
				own := dice(i)
				span := api.Span{From: i * width, To: (i + 1) * width}
				for _, shard := range slices.Concat(shards, fresh) {
					copy(shard[span.From:span.To], own.bytes(width))
				}
				c.EncodeSpan(shards, span)
				c.Fill(p, shards, span)
				if ok, e := c.VerifySpan(shards, span); !ok || e != api.OK {
					t.Errorf("VerifySpan, %v, within %v: %v, %d", s, span, ok, e)
				}
				c.UpdateSpan(shards, fresh, span)
			})
		}
		all.Wait()
		if ok, e := c.Verify(slices.Concat(fresh, shards[s.k:])); !ok || e != api.OK {
			t.Errorf("%v, spans of the same shards: %v, %d", s, ok, e)
		}
	}
}
