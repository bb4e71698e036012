package mcode

import (
	"bytes"
	"slices"
	"sync"
	"testing"

	"cullet/api"
)

// What holds for all calls: P1, P8 and the document's rules.

// input: what the calls are given; each takes its part.
type input struct {
	shards, fresh [][]byte
	span          api.Span
	plan          api.Plan
}

// call: one that works on shards, whether it answers true, and its error by the promises.
type call struct {
	name string
	run  func(c *Codec, in input) (bool, api.Errno)
	want func(s setting, in input) api.Errno
}

func everyCall() []call {
	plain := func(run func(c *Codec, in input) api.Errno) func(c *Codec, in input) (bool, api.Errno) {
		return func(c *Codec, in input) (bool, api.Errno) { return false, run(c, in) }
	}
	return []call{
		{"Encode", plain(func(c *Codec, in input) api.Errno { return c.Encode(in.shards) }), setting.wholeError},
		{"EncodeSpan", plain(func(c *Codec, in input) api.Errno { return c.EncodeSpan(in.shards, in.span) }), ranged(setting.wholeError)},
		{"Verify", func(c *Codec, in input) (bool, api.Errno) { return c.Verify(in.shards) }, setting.wholeError},
		{"VerifySpan", func(c *Codec, in input) (bool, api.Errno) { return c.VerifySpan(in.shards, in.span) }, ranged(setting.wholeError)},
		{"Reconstruct", plain(func(c *Codec, in input) api.Errno { return c.Reconstruct(in.shards) }), setting.partialError},
		{"ReconstructData", plain(func(c *Codec, in input) api.Errno { return c.ReconstructData(in.shards) }), setting.partialError},
		{"Update", plain(func(c *Codec, in input) api.Errno { return c.Update(in.shards, in.fresh) }), setting.freshError},
		{"UpdateSpan", plain(func(c *Codec, in input) api.Errno { return c.UpdateSpan(in.shards, in.fresh, in.span) }), ranged(setting.freshError)},
		{"Fill", plain(func(c *Codec, in input) api.Errno { return c.Fill(in.plan, in.shards, in.span) }), func(s setting, in input) api.Errno {
			if e := ranged(setting.wholeError)(s, in); e != api.OK || s.planFits(in.plan) {
				return e
			}
			return api.ErrPlan
		}},
	}
}

// kinds: the lengths that there are, but 0; each one once, rising.
func kinds(lists ...[][]byte) []int {
	var found []int
	for _, shard := range slices.Concat(lists...) {
		if len(shard) > 0 {
			found = append(found, len(shard))
		}
	}
	slices.Sort(found)
	return slices.Compact(found)
}

func empties(shards [][]byte) int {
	count := 0
	for _, shard := range shards {
		if len(shard) == 0 {
			count++
		}
	}
	return count
}

func (s setting) wholeError(in input) api.Errno {
	switch {
	case len(in.shards) != s.k+s.m:
		return api.ErrCount
	case empties(in.shards) > 0:
		return api.ErrEmpty
	case len(kinds(in.shards)) > 1:
		return api.ErrUneven
	}
	return api.OK
}

func (s setting) partialError(in input) api.Errno {
	switch {
	case len(in.shards) != s.k+s.m:
		return api.ErrCount
	case empties(in.shards) == s.k+s.m:
		return api.ErrEmpty
	case len(kinds(in.shards)) > 1:
		return api.ErrUneven
	case s.k+s.m-empties(in.shards) < s.k:
		return api.ErrTooFew
	}
	return api.OK
}

func (s setting) freshError(in input) api.Errno {
	switch {
	case len(in.shards) != s.k+s.m || len(in.fresh) != s.k:
		return api.ErrCount
	case empties(in.shards) > 0:
		return api.ErrEmpty
	case len(kinds(in.shards, in.fresh)) > 1:
		return api.ErrUneven
	}
	return api.OK
}

// ranged: the errors, and behind them ErrRange.
func ranged(first func(s setting, in input) api.Errno) func(s setting, in input) api.Errno {
	return func(s setting, in input) api.Errno {
		if e := first(s, in); e != api.OK || isWithin(in.span, len(in.shards[0])) {
			return e
		}
		return api.ErrRange
	}
}

// checkError: the call's error is the promises' one; beside an error nothing is answered and nothing changed, the cache and its order included.
func checkError(t *testing.T, f call, c *Codec, s setting, in input) {
	t.Helper()
	about, beside, rows := stage(in.shards), stage(in.fresh), stage(in.plan.Rows)
	staged := in
	staged.shards, staged.fresh, staged.plan.Rows = about.shards, beside.shards, rows.shards
	was := c.cache.Recent()
	ok, e := f.run(c, staged)
	if want := f.want(s, in); e != want {
		t.Fatalf("%s, %v, %v: %d, want %d", f.name, s, in, e, want)
	}
	if e == api.OK {
		return
	}
	if ok || !about.kept(nil, nil) || !beside.kept(nil, nil) || !rows.kept(nil, nil) || !slices.EqualFunc(c.cache.Recent(), was, slices.Equal) {
		t.Fatalf("%s, %v, %v: beside the error %d something is answered or changed", f.name, s, in, e)
	}
}

// primed: a codec whose cache has two plans.
func (s setting) primed(t *testing.T) *Codec {
	t.Helper()
	c := s.codec(t, api.Sliced)
	c.Plan([]int{1})
	c.Plan([]int{0})
	return c
}

// All short lists of shards of lengths 0 to 2, with good and bad spans, fresh lists and plans.
func TestErrorsOfAllShortLists(t *testing.T) {
	for _, s := range both([][2]int{{2, 1}, {1, 2}}) {
		c := s.primed(t)
		freshLists := [][][]byte{nil, shardsOf(2), shardsOf(0, 2), shardsOf(1, 0), shardsOf(0, 0), shardsOf(0), shardsOf(1, 2), shardsOf(2, 2, 2)}
		plans := []api.Plan{{}, s.plan([]int{2}), {Used: firstOf(s.k)}, {Missing: []int{0}, Used: firstOf(s.k), Rows: rowsOf(s.k)}}
		spans := []api.Span{{To: 1}, {From: 1, To: 2}, {From: 2, To: 1}, {From: -1, To: 1}, {From: 0, To: 3}}
		for n := range 5 {
			countLists(n, 3, func(lengths []int) {
				for i := range freshLists {
					for j, span := range spans {
						in := input{shardsOf(lengths...), freshLists[i], span, plans[(i+j)%len(plans)]}
						for _, f := range everyCall() {
							checkError(t, f, c, s, in)
						}
					}
				}
			})
		}
	}
}

// Every bad span, where all else is right and where the plan is wrong too; and where the shards have an error that stands ahead.
func TestErrorsOfBadSpans(t *testing.T) {
	d := dice(50)
	for _, s := range append(small(), both([][2]int{{10, 4}, {60, 20}})...) {
		c := s.primed(t)
		for _, n := range []int{1, 6} {
			good := input{shards: d.codeword(s, n), fresh: d.shards(s.k, n), plan: s.plan([]int{0})}
			for _, span := range badSpans(n) {
				good.span = span
				uneven, noPlan, empty := good, good, good
				uneven.shards = append(d.shards(s.k+s.m-1, n), d.bytes(n+1))
				empty.shards = without(good.shards, []int{s.k + s.m - 1})
				noPlan.plan = api.Plan{}
				for _, f := range everyCall() {
					for _, in := range []input{good, uneven, noPlan, empty} {
						checkError(t, f, c, s, in)
					}
				}
			}
		}
	}
}

// Of great codes: a shard too few, one too many, one empty, one of another length, each at several places.
func TestErrorsOfGreatSets(t *testing.T) {
	d := dice(51)
	for _, s := range great() {
		c := s.primed(t)
		n := s.k + s.m
		whole := d.codeword(s, 4)
		sets := [][][]byte{nil, whole[:n-1], append(slices.Clone(whole), d.bytes(4)), without(whole, firstOf(n)), without(whole, firstOf(s.m+1)), without(whole, firstOf(n)[s.k-1:]), without(whole, firstOf(n-1))}
		for _, at := range []int{0, 1, s.k - 1, s.k, n - 1} {
			sets = append(sets, without(whole, []int{at}), slices.Concat(whole[:at], [][]byte{d.bytes(5)}, whole[at+1:]), slices.Concat(whole[:at], [][]byte{d.bytes(3)}, whole[at+1:]))
		}
		for _, shards := range sets {
			in := input{shards: shards, fresh: d.shards(s.k, 4), span: api.Span{To: 4}, plan: s.plan([]int{0})}
			for _, f := range everyCall() {
				checkError(t, f, c, s, in)
			}
		}
		for _, fresh := range [][][]byte{nil, d.shards(s.k-1, 4), d.shards(s.k+1, 4), d.shards(s.k, 5), append(d.shards(s.k-1, 4), d.bytes(3)), make([][]byte, s.k)} {
			in := input{shards: whole, fresh: fresh, span: api.Span{To: 4}, plan: s.plan([]int{0})}
			for _, f := range everyCall() {
				checkError(t, f, c, s, in)
			}
		}
	}
}

// ErrNil is ahead of all others.
func TestNilCodec(t *testing.T) {
	var none *Codec
	d := dice(52)
	good := [][]byte{{5, 0}, {7, 1}, {1, 2}}
	for _, shards := range [][][]byte{nil, {}, {nil}, good, {{5, 0}, nil, {1, 2}}, {{1}, {2, 3}}} {
		for _, span := range append(badSpans(2), spansOf(2)...) {
			for _, f := range everyCall() {
				about := stage(shards)
				in := input{about.shards, d.shards(2, 2), span, setting{api.Vander, 2, 1}.plan([]int{0})}
				if ok, e := f.run(none, in); ok || e != api.ErrNil || !about.kept(nil, nil) {
					t.Fatalf("%s of a nil codec: %v, %d, or something is changed", f.name, ok, e)
				}
			}
		}
	}
	for _, missing := range [][]int{nil, {}, {0}, {1, 1}, {-1}, firstOf(300)} {
		if p, e := none.Plan(missing); e != api.ErrNil || !samePlan(p, api.Plan{}) {
			t.Errorf("Plan of a nil codec: %v, %d", p, e)
		}
	}
}

// Of a zero struct, and of a copy, only that their calls end is promised.
func TestCodecsMadeOtherwise(t *testing.T) {
	s := setting{api.Vander, 2, 1}
	copied := *s.codec(t, api.Table)
	for _, c := range []*Codec{{}, &copied} {
		for _, shards := range [][][]byte{nil, {}, {nil}, shardsOf(2, 2, 2), shardsOf(2, 0, 2), shardsOf(0, 0, 0), shardsOf(1, 2, 2)} {
			for _, span := range append(badSpans(2), spansOf(2)...) {
				for _, f := range everyCall() {
					endsQuietly(t, f.name, func() { f.run(c, input{copies(shards), shardsOf(2, 2), span, s.plan([]int{0})}) })
					endsQuietly(t, f.name, func() { f.run(c, input{copies(shards), nil, span, api.Plan{}}) })
				}
			}
		}
		for _, missing := range [][]int{nil, {0}, {2}, {0, 1}, {-1}, {1, 1}} {
			endsQuietly(t, "Plan", func() { c.Plan(missing) })
		}
		endsQuietly(t, "Cached", func() { c.Cached() })
	}
}

// Shards that share memory with one another, with the fresh ones or with a plan's rows: the calls end with OK, and no byte outside of them is changed.
func TestShardsThatShareMemory(t *testing.T) {
	for _, s := range both([][2]int{{3, 2}, {1, 3}}) {
		for _, c := range s.codecs(t) {
			for _, step := range []int{0, 1, 7, 8} {
				for _, missing := range [][]int{nil, {0}, {s.k}, {1, 3}} {
					for _, f := range everyCall() {
						array := dealt(80)
						was := bytes.Clone(array)
						var shards [][]byte
						for i := range s.k + s.m {
							shards = append(shards, array[20+i*step:20+i*step+17])
						}
						in := input{shards: shards, fresh: shards[:s.k], span: api.Span{From: 2, To: 15}, plan: s.plan([]int{1, 3})}
						in.plan.Rows = [][]byte{array[21 : 21+s.k], array[22 : 22+s.k]}
						if f.name == "Reconstruct" || f.name == "ReconstructData" {
							in.shards = without(shards, missing)
						}
						endsQuietly(t, f.name, func() {
							if _, e := f.run(c, in); e != api.OK {
								t.Errorf("%s, %v, shards %d bytes from one another: %d", f.name, s, step, e)
							}
						})
						end := 20 + (s.k+s.m-1)*step + 17
						if !bytes.Equal(array[:20], was[:20]) || !bytes.Equal(array[end:], was[end:]) {
							t.Errorf("%s, %v, shards %d bytes from one another: a byte outside of them is changed", f.name, s, step)
						}
					}
				}
			}
		}
	}
}

// dealt: n bytes, the same ones each time.
func dealt(n int) []byte {
	d := dice(53)
	return d.bytes(n)
}

// Shards one behind another in one array: each lies in the others' spare room, and that is no sharing.
func TestShardsOfOneArray(t *testing.T) {
	d := dice(54)
	for _, s := range small() {
		for _, c := range s.codecs(t) {
			const length = 13
			n := s.k + s.m
			array := d.bytes(n * length)
			part := func(i int) []byte { return array[i*length : (i+1)*length] }
			// The last shard first, so that data lie behind parity.
			var shards [][]byte
			for i := range n {
				shards = append(shards, part(n-1-i))
			}
			want := s.encoded(shards, api.Span{To: length})
			if e := c.Encode(shards); e != api.OK || !alike(shards, want) {
				t.Fatalf("Encode, %v, shards of one array: %d, or other bytes", s, e)
			}
			fresh := d.shards(s.k, length)
			updated := s.updated(shards, fresh, api.Span{From: 3, To: 9})
			if e := c.UpdateSpan(shards, fresh, api.Span{From: 3, To: 9}); e != api.OK || !alike(shards, updated) {
				t.Fatalf("UpdateSpan, %v, shards of one array: %d, or other bytes", s, e)
			}
			c.Encode(shards)
			was := bytes.Clone(array)
			lost := slices.Clone(shards)
			lost[0] = lost[0][:0]
			if e := c.Reconstruct(lost); e != api.OK || !alike(lost, want) || !bytes.Equal(array, was) {
				t.Fatalf("Reconstruct, %v, shards of one array: %d, or other bytes", s, e)
			}
			p, _ := c.Plan([]int{n - 1})
			clear(shards[n-1])
			if e := c.Fill(p, shards, api.Span{To: length}); e != api.OK || !bytes.Equal(array, was) {
				t.Fatalf("Fill, %v, shards of one array: %d, or other bytes", s, e)
			}
		}
	}
}

// What a call answers and writes depends neither on the calls ahead of it nor on the cache nor on the backend.
func TestNothingButTheCacheIsKept(t *testing.T) {
	d := dice(55)
	for _, s := range both([][2]int{{5, 4}}) {
		old := s.codecs(t)
		for round := range 200 {
			missing := d.some(1+d.next(4), 9)
			in := input{shards: d.shards(9, 7), fresh: d.freshOf(s, d.some(d.next(6), 5), 7), span: spansOf(7)[d.next(36)], plan: s.plan(missing)}
			for _, f := range everyCall() {
				if f.name == "Reconstruct" || f.name == "ReconstructData" {
					in.shards = without(in.shards, missing)
				}
				fresh := s.codec(t, backends()[round%3])
				want := in
				want.shards = copies(in.shards)
				ok, e := f.run(fresh, want)
				for _, c := range old {
					have := in
					have.shards = copies(in.shards)
					if got, err := f.run(c, have); got != ok || err != e || !alike(have.shards, want.shards) {
						t.Fatalf("%s, %v, round %d: another answer behind other calls", f.name, s, round)
					}
				}
				in.shards = want.shards
				if f.name == "Reconstruct" || f.name == "ReconstructData" {
					in.shards = d.shards(9, 7)
				}
			}
		}
	}
}

// What was handed in is the caller's behind the call: what is done to it is not seen, and nothing is done to it.
func TestArgumentsAreNotKept(t *testing.T) {
	d := dice(56)
	for _, s := range both([][2]int{{4, 3}}) {
		for _, c := range s.codecs(t) {
			for range 20 {
				whole := d.codeword(s, 8)
				lost := without(copies(whole), []int{1, 5})
				fresh := d.shards(s.k, 8)
				first := copies(whole)
				c.Encode(first)
				c.Update(first, fresh)
				c.Reconstruct(lost)
				handed := slices.Concat(first, lost, fresh)
				for _, shard := range handed {
					spoil(shard, 0xA5)
				}
				again := without(whole, []int{1, 5})
				if e := c.Reconstruct(again); e != api.OK || !alike(again, whole) {
					t.Fatalf("Reconstruct, %v, behind lists that were written over: %d, or other bytes", s, e)
				}
				for _, shard := range handed {
					if !bytes.Equal(shard, bytes.Repeat([]byte{0xA5}, 8)) {
						t.Fatalf("%v: a later call has changed an earlier one's lists", s)
					}
				}
			}
		}
	}
}

// EncodeSpan, VerifySpan, UpdateSpan and Fill at one time on one codec, within spans that lie beside one another (the race detector's test too).
func TestCompany(t *testing.T) {
	d := dice(57)
	for _, s := range both([][2]int{{4, 3}}) {
		for _, c := range s.codecs(t) {
			const width, parts = 61, 12
			const length = width * parts
			whole := d.codeword(s, length)
			encoded := append(copies(whole[:s.k]), d.shards(s.m, length)...)
			turned, fresh := copies(whole), d.freshOf(s, []int{0, 3}, length)
			want := s.updated(turned, fresh, api.Span{To: length})
			broken := copies(whole)
			clear(broken[2])
			clear(broken[5])
			p, _ := c.Plan([]int{2, 5})
			var all sync.WaitGroup
			start := func(name string, run func() (bool, api.Errno)) {
				all.Go(func() {
					if ok, e := run(); !ok || e != api.OK {
						t.Errorf("%s in company: %v, %d", name, ok, e)
					}
				})
			}
			for i := range parts {
				span := api.Span{From: i * width, To: (i + 1) * width}
				start("EncodeSpan", func() (bool, api.Errno) { return true, c.EncodeSpan(encoded, span) })
				start("VerifySpan", func() (bool, api.Errno) { return c.VerifySpan(whole, span) })
				start("UpdateSpan", func() (bool, api.Errno) { return true, c.UpdateSpan(turned, fresh, span) })
				start("Fill", func() (bool, api.Errno) { return true, c.Fill(p, broken, span) })
			}
			all.Wait()
			if !alike(encoded, whole) || !alike(turned, want) || !alike(broken, whole) {
				t.Errorf("%v in company: other bytes", s)
			}
		}
	}
}

// A call within a span reads no byte beside it: others may write them at that time (the race detector's test).
func TestSpansOfTheSameShards(t *testing.T) {
	d := dice(58)
	for _, s := range both([][2]int{{3, 2}}) {
		for _, c := range s.codecs(t) {
			const width, parts = 10, 9
			shards, fresh := d.shards(s.k+s.m, width*parts), d.shards(s.k, width*parts)
			p, _ := c.Plan([]int{0, 4})
			var all sync.WaitGroup
			for i := range parts {
				all.Go(func() {
					own := dice(i)
					span := api.Span{From: i * width, To: (i + 1) * width}
					for _, shard := range slices.Concat(shards, fresh) {
						copy(shard[span.From:span.To], own.bytes(width))
					}
					c.EncodeSpan(shards, span)
					c.Fill(p, shards, span)
					if ok, e := c.VerifySpan(shards, span); !ok || e != api.OK {
						t.Errorf("VerifySpan, %v, within %v: %v, %d", s, span, ok, e)
					}
					c.UpdateSpan(shards, fresh, span)
				})
			}
			all.Wait()
			if ok, e := c.Verify(slices.Concat(fresh, shards[s.k:])); !ok || e != api.OK {
				t.Errorf("%v, spans of the same shards: %v, %d", s, ok, e)
			}
		}
	}
}
