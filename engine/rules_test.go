package engine

import (
	"bytes"
	"runtime"
	"slices"
	"sync"
	"testing"
	"time"

	"cullet/api"
)

// P23.9, P1, P8 and the document's rules.

// kinds: the different lengths of the shards that aren't empty.
func kinds(lists ...[][]byte) []int {
	var found []int
	for _, shard := range slices.Concat(lists...) {
		if len(shard) > 0 {
			found = append(found, len(shard))
		}
	}
	slices.Sort(found)
	return slices.Compact(found)
}

func empties(shards [][]byte) int {
	count := 0
	for _, shard := range shards {
		if len(shard) == 0 {
			count++
		}
	}
	return count
}

// errorOf: what the call must answer, each error a question of its own.
func (s setting) errorOf(call api.Call) api.Errno {
	restores := call.Kind == api.CallReconstruct || call.Kind == api.CallReconstructData
	updates := call.Kind == api.CallUpdate
	lists := [][][]byte{call.Shards}
	if updates {
		lists = append(lists, call.Fresh)
	}
	lost := empties(call.Shards)
	switch {
	case call.Kind < 1 || call.Kind > 5:
		return api.ErrCall
	case len(call.Shards) != s.count() || updates && len(call.Fresh) != s.k:
		return api.ErrCount
	case lost == s.count() || lost > 0 && !restores:
		return api.ErrEmpty
	case len(kinds(lists...)) > 1:
		return api.ErrUneven
	case s.isLong() && kinds(lists...)[0]%2 == 1:
		return api.ErrOdd
	case lost > s.m:
		return api.ErrTooFew
	}
	return api.OK
}

// primed: an engine whose cache has two plans.
func (s setting) primed(t *testing.T, o api.Options) *Engine {
	t.Helper()
	e := made(t, o)
	d := dice(40)
	for _, number := range []int{0, s.k} {
		e.Reconstruct(without(d.shards(s.count(), 2), []int{number}))
	}
	return e
}

// checkError: alone and in company the call's error is the promises' one; beside an error nothing is answered and nothing changed, the cache and its order included.
func checkError(t *testing.T, e *Engine, s setting, call api.Call) {
	t.Helper()
	for _, together := range []bool{false, true} {
		about, fresh := stage(call.Shards), stage(call.Fresh)
		was := e.Cached()
		staged := api.Call{Kind: call.Kind, Shards: about.shards, Fresh: fresh.shards}
		reply := api.Reply{}
		if together {
			replies, _ := e.Together(nil, []api.Call{staged})
			reply = replies[0]
		} else {
			reply = answer(e, staged)
		}
		if want := s.errorOf(call); reply.Err != want {
			t.Fatalf("%v, the kind %d, %v, %v: %d, want %d", s, call.Kind, call.Shards, call.Fresh, reply.Err, want)
		}
		if reply.Err != api.OK && (reply.Good || !about.kept(nil, nil) || !fresh.kept(nil, nil) || !sameKeys(e.Cached(), was)) {
			t.Fatalf("%v, the kind %d, %v, %v: beside the error %d something is answered or changed", s, call.Kind, call.Shards, call.Fresh, reply.Err)
		}
	}
}

// All short lists of shards of lengths 0 to 2, of Long to 4, with fresh lists of all kinds.
func TestErrorsOfAllShortLists(t *testing.T) {
	for _, s := range each([][2]int{{2, 1}, {1, 2}}, api.Vander, api.Cauchy, api.Long) {
		lengths := []int{0, 1, 2}
		if s.isLong() {
			lengths = []int{0, 2, 4, 3}
		}
		freshLists := [][][]byte{nil, shardsOf(2), shardsOf(0, 2), shardsOf(1, 0), shardsOf(0, 0), shardsOf(0), shardsOf(4, 2), shardsOf(2, 2, 2), shardsOf(3)}
		for _, o := range s.manyOptions()[:3] {
			e := s.primed(t, o)
			for n := range 5 {
				countLists(n, len(lengths), func(list []int) {
					for i := range list {
						list[i] = lengths[list[i]]
					}
					for kind := 1; kind <= 4; kind++ {
						checkError(t, e, s, api.Call{Kind: kind, Shards: shardsOf(list...)})
					}
					for _, fresh := range freshLists {
						checkError(t, e, s, api.Call{Kind: api.CallUpdate, Shards: shardsOf(list...), Fresh: fresh})
					}
				})
			}
		}
	}
}

// Of greater codes: a shard too few, one too many, one empty, one of another length, each at several places.
func TestErrorsOfGreaterSets(t *testing.T) {
	d := dice(41)
	for _, s := range middling() {
		e := s.primed(t, s.options())
		n := s.count()
		whole := d.shards(n, 4)
		sets := [][][]byte{nil, whole, whole[:n-1], append(slices.Clone(whole), d.bytes(4)), without(whole, between(0, n)), without(whole, between(0, s.m+1)), without(whole, between(s.k-1, n)), without(whole, between(0, n-1)), d.shards(n, 5)}
		for _, at := range []int{0, s.k - 1, s.k, n - 1} {
			sets = append(sets, without(whole, []int{at}), slices.Concat(whole[:at], [][]byte{d.bytes(5)}, whole[at+1:]), slices.Concat(whole[:at], [][]byte{d.bytes(3)}, whole[at+1:]))
		}
		for _, shards := range sets {
			for kind := 1; kind <= 5; kind++ {
				checkError(t, e, s, api.Call{Kind: kind, Shards: shards, Fresh: d.shards(s.k, 4)})
			}
		}
		for _, fresh := range [][][]byte{nil, d.shards(s.k-1, 4), d.shards(s.k+1, 4), d.shards(s.k, 5), append(d.shards(s.k-1, 4), d.bytes(3)), make([][]byte, s.k)} {
			checkError(t, e, s, api.Call{Kind: api.CallUpdate, Shards: whole, Fresh: fresh})
		}
	}
}

// ErrNil is ahead of all others.
func TestNilEngine(t *testing.T) {
	var none *Engine
	for _, shards := range [][][]byte{nil, {}, {nil}, {{5, 0}, {7, 1}, {1, 2}}, {{5, 0}, nil, {1, 2}}, {{1}, {2, 3}}} {
		about := stage(shards)
		for kind := 1; kind <= 5; kind++ {
			if reply := answer(none, api.Call{Kind: kind, Shards: about.shards, Fresh: about.shards}); reply != (api.Reply{Err: api.ErrNil}) {
				t.Errorf("the kind %d: %v", kind, reply)
			}
		}
		if wrong, fault := none.Correct(about.shards); fault != api.ErrNil || len(wrong) > 0 {
			t.Errorf("Correct: %v, %d", wrong, fault)
		}
		if data, fault := none.Join(about.shards, len(shards)); fault != api.ErrNil || len(data) > 0 {
			t.Errorf("Join: %v, %d", data, fault)
		}
		if !about.kept(nil, nil) {
			t.Error("something is changed")
		}
	}
	for _, data := range [][]byte{nil, {1, 2}} {
		if shards, fault := none.Split(data); fault != api.ErrNil || len(shards) > 0 {
			t.Errorf("Split: %v, %d", shards, fault)
		}
	}
	for _, count := range []int{0, 1, 65} {
		if replies, fault := none.Together(nil, make([]api.Call, count)); fault != api.ErrNil || len(replies) > 0 {
			t.Errorf("Together: %v, %d", replies, fault)
		}
	}
	if o, fault := none.Options(); fault != api.ErrNil || !sameOptions(o, api.Options{}) {
		t.Errorf("Options: %v, %d", o, fault)
	}
	if keys := none.Cached(); len(keys) > 0 {
		t.Errorf("Cached: %v", keys)
	}
}

// Of a zero struct, and of a copy, only that their calls end is promised. A copy that is made while a call has the mutex must not wait for ever.
func TestEnginesMadeOtherwise(t *testing.T) {
	for _, s := range []setting{{api.Vander, 2, 1}, {api.Long, 2, 1}} {
		e := made(t, s.options())
		copied := *e
		e.kept.mutex.Lock()
		amid := *e
		e.kept.mutex.Unlock()
		for _, x := range []*Engine{{}, &copied, &amid} {
			for _, shards := range [][][]byte{nil, {}, {nil}, shardsOf(2, 2, 2), shardsOf(2, 0, 2), shardsOf(0, 0, 0), shardsOf(1, 2, 2)} {
				endsQuietly(t, "a call", func() {
					for kind := range 7 {
						call := api.Call{Kind: kind, Shards: copies(shards), Fresh: shardsOf(2, 2)}
						answer(x, call)
						x.Together([]int{1}, []api.Call{call, call})
					}
					x.Correct(copies(shards))
					x.Split([]byte{1, 2, 3})
					x.Join(shards, 2)
					x.Options()
					x.Cached()
				})
			}
		}
	}
}

// Shards that share memory with one another or with the fresh ones: the calls end, and no byte outside of them is changed. (One span, for then they are worked at by one goroutine.)
func TestShardsThatShareMemory(t *testing.T) {
	for _, s := range each([][2]int{{3, 2}, {1, 3}}, api.Vander, api.Cauchy, api.Long) {
		for _, b := range s.backends() {
			o := s.options()
			o.Backend, o.Stripe = b, 100
			e := made(t, o)
			for _, step := range []int{0, 1, 7, 8} {
				for kind := 1; kind <= 5; kind++ {
					d := dice(42)
					array := d.bytes(80)
					was := bytes.Clone(array)
					var shards [][]byte
					for i := range s.count() {
						shards = append(shards, array[20+i*step:20+i*step+16])
					}
					call := api.Call{Kind: kind, Shards: shards, Fresh: shards[:s.k]}
					if kind == api.CallReconstruct || kind == api.CallReconstructData {
						call.Shards = without(shards, []int{0, s.k})
					}
					endsQuietly(t, "a call", func() {
						if reply := answer(e, call); reply.Err != api.OK {
							t.Errorf("the kind %d, %v, shards %d bytes from one another: %d", kind, s, step, reply.Err)
						}
						e.Correct(slices.Clone(shards))
					})
					end := 20 + (s.count()-1)*step + 16
					if !bytes.Equal(array[:20], was[:20]) || !bytes.Equal(array[end:], was[end:]) {
						t.Errorf("the kind %d, %v, shards %d bytes from one another: a byte outside of them is changed", kind, s, step)
					}
				}
			}
		}
	}
}

// What a call answers and writes depends neither on the calls ahead of it nor on backend, workers, stripe, cache and schedule.
func TestNothingButTheCacheIsKept(t *testing.T) {
	d := dice(43)
	for _, s := range each([][2]int{{3, 2}, {5, 4}}, api.Vander, api.Cauchy, api.Long) {
		old := s.engines(t)
		for range 60 {
			call := d.call(s, s.width()*(1+d.next(8)))
			want := copyCalls([]api.Call{call})[0]
			reply := answer(made(t, s.options()), want)
			for _, e := range old {
				got := copyCalls([]api.Call{call})[0]
				if x := answer(e, got); x != reply || !alike(got.Shards, want.Shards) {
					t.Fatalf("%+v, the kind %d: %v behind other calls, and %v without, or other shards", e.options, call.Kind, x, reply)
				}
			}
		}
	}
}

// What was handed in and given back is the caller's behind the call: what is done to it is not seen, and nothing is done to it.
func TestArgumentsAreNotKept(t *testing.T) {
	d := dice(44)
	for _, s := range small() {
		for _, e := range s.engines(t) {
			whole := d.codeword(s, 8)
			lost := without(copies(whole), []int{0})
			first, fresh := copies(whole), d.shards(s.k, 8)
			calls := []api.Call{{Kind: api.CallReconstruct, Shards: without(copies(whole), []int{0})}}
			picks := []int{1, 2}
			e.Encode(first)
			e.Update(first, fresh)
			e.Reconstruct(lost)
			replies, _ := e.Together(picks, calls)
			handed := slices.Concat(first, lost, fresh, calls[0].Shards)
			for _, shard := range handed {
				for i := range shard {
					shard[i] = 0xA5
				}
			}
			replies[0], calls[0], picks[0] = api.Reply{Err: 99}, api.Call{}, 77
			again := without(whole, []int{0})
			more, _ := e.Together(nil, []api.Call{{Kind: api.CallVerify, Shards: whole}})
			if fault := e.Reconstruct(again); fault != api.OK || !alike(again, whole) || more[0] != (api.Reply{Good: true}) {
				t.Fatalf("%+v, behind lists that were written over: %d, %v, or other bytes", e.options, fault, more)
			}
			for _, shard := range handed {
				if !bytes.Equal(shard, bytes.Repeat([]byte{0xA5}, 8)) {
					t.Fatalf("%+v: a later call has changed an earlier one's lists", e.options)
				}
			}
		}
	}
}

// Nil and empty lists are one.
func TestNilAndEmpty(t *testing.T) {
	for _, s := range small() {
		e := made(t, s.options())
		d := dice(45)
		whole := d.codeword(s, 4)
		for _, none := range [][]byte{nil, {}, whole[0][:0]} {
			lost := slices.Clone(whole)
			lost[0] = none
			if fault := e.Reconstruct(lost); fault != api.OK || !alike(lost, whole) {
				t.Fatalf("%v: Reconstruct: %d, or other bytes", s, fault)
			}
			shards := copies(whole)
			if fault := e.Update(shards, slices.Repeat([][]byte{none}, s.k)); fault != api.OK || !alike(shards, whole) {
				t.Fatalf("%v: Update: %d, or other bytes", s, fault)
			}
		}
		for _, shards := range [][][]byte{nil, {}} {
			if fault := e.Encode(shards); fault != api.ErrCount {
				t.Fatalf("%v: Encode of no shards: %d", s, fault)
			}
		}
	}
}

// Many goroutines on one engine, with calls of all kinds over shards of their own (the race detector's test too); the present shards that they read are shared.
func TestCompany(t *testing.T) {
	for _, s := range each([][2]int{{4, 3}, {10, 4}}, api.Vander, api.Cauchy, api.Long) {
		for _, e := range s.engines(t) {
			d := dice(46)
			whole := d.codeword(s, 40)
			var all sync.WaitGroup
			for i := range 16 {
				all.Go(func() {
					d := dice(i)
					for range 6 {
						shards := append(slices.Clone(whole[:s.k]), d.shards(s.m, 40)...)
						if fault := e.Encode(shards); fault != api.OK || !alike(shards, whole) {
							t.Errorf("Encode in company: %d, or other bytes", fault)
						}
						lost := without(whole, d.some(d.next(s.m+1), s.count()))
						if fault := e.Reconstruct(lost); fault != api.OK || !alike(lost, whole) {
							t.Errorf("Reconstruct in company: %d, or other bytes", fault)
						}
						fresh := without(d.shards(s.k, 40), d.some(d.next(s.k), s.k))
						if fault := e.Update(shards, fresh); fault != api.OK || !alike(shards, s.updated(whole, fresh)) {
							t.Errorf("Update in company: %d, or other bytes", fault)
						}
						if good, fault := e.Verify(whole); !good || fault != api.OK {
							t.Errorf("Verify in company: %v, %d", good, fault)
						}
						lost, data := without(whole, d.some(s.m, s.count())), without(whole, d.some(s.m, s.count()))
						replies, fault := e.Together(d.picks(20, 3), []api.Call{{Kind: api.CallReconstruct, Shards: lost}, {Kind: api.CallReconstructData, Shards: data}, {Kind: api.CallVerify, Shards: whole}})
						if fault != api.OK || !slices.Equal(replies, []api.Reply{{}, {}, {Good: true}}) || !alike(lost, whole) || !alike(data[:s.k], whole[:s.k]) {
							t.Errorf("Together in company: %v, %d, or other bytes", replies, fault)
						}
						if keys := e.Cached(); len(keys) > e.options.Cache {
							t.Errorf("%d keys in company", len(keys))
						}
						e.Options()
					}
				})
			}
			all.Wait()
		}
	}
}

// Calls of several goroutines behave as if they had come one after another, Together among them: its uses of the cache stand beside one another, and nobody sees some of them alone.
func TestCallsComeOneAfterAnother(t *testing.T) {
	s := setting{api.Vander, 12, 3}
	o := s.options()
	o.Stripe, o.Cache = 1, 20
	d := dice(47)
	whole := d.codeword(s, 12)
	for range 15 {
		e := made(t, o)
		var all sync.WaitGroup
		for i := range 4 {
			all.Go(func() {
				var calls []api.Call
				for j := range 3 {
					calls = append(calls, restoring(api.CallReconstruct, whole, 3*i+j))
				}
				e.Together(slices.Repeat([]int{0, 1, 2}, 9), calls)
			})
			all.Go(func() {
				for range 20 {
					checkTriples(t, e.Cached())
					runtime.Gosched()
				}
			})
		}
		all.Go(func() { e.Reconstruct(without(whole, []int{12})) })
		all.Wait()
		keys := e.Cached()
		if len(keys) != 13 {
			t.Fatalf("%d keys", len(keys))
		}
		checkTriples(t, keys)
	}
}

// checkTriples: beside the key 12 there are threes of keys that one Together has used.
func checkTriples(t *testing.T, keys [][]int) {
	t.Helper()
	for at := 0; at < len(keys); {
		if keys[at][0] == 12 {
			at++
			continue
		}
		if at+3 > len(keys) || keys[at][0]/3 != keys[at+1][0]/3 || keys[at][0]/3 != keys[at+2][0]/3 {
			t.Errorf("%v: the uses of one Together aren't beside one another", keys)
			return
		}
		at += 3
	}
}

// All goroutines that a call has started have ended when it answers. (One that has done its last act may still be counted for a moment.)
func TestNoGoroutineIsLeft(t *testing.T) {
	d := dice(48)
	for _, s := range []setting{{api.Vander, 4, 3}, {api.Long, 4, 3}} {
		for _, e := range s.engines(t) {
			was := runtime.NumGoroutine()
			whole := d.codeword(s, 60)
			other := copies(whole)
			other[0][0]++
			for range 5 {
				e.Encode(copies(whole))
				e.Verify(other)
				e.Reconstruct(without(whole, []int{0, 5}))
				e.Update(copies(whole), d.shards(s.k, 60))
				e.Together(d.picks(50, 9), []api.Call{{Kind: api.CallVerify, Shards: whole}, restoring(api.CallReconstruct, whole, 1), {Kind: 9}})
			}
			for wait := 0; runtime.NumGoroutine() > was && wait < 2000; wait++ {
				time.Sleep(time.Millisecond)
			}
			if now := runtime.NumGoroutine(); now > was {
				t.Fatalf("%+v: %d goroutines, and %d ahead", e.options, now, was)
			}
		}
	}
}
