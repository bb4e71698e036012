package engine

import (
	"slices"
	"testing"

	"cullet/api"
)

// P23.7.

// keyList is the model of the cache: its keys, the last used one first.
type keyList struct {
	keys  [][]int
	limit int
}

func (l *keyList) use(key []int) {
	l.keys = slices.DeleteFunc(l.keys, func(k []int) bool { return slices.Equal(k, key) })
	l.keys = slices.Insert(l.keys, 0, slices.Clone(key))
	l.keys = l.keys[:min(l.limit, len(l.keys))]
}

// usedBy: the key that a call uses; none if it is refused, finds nothing missing, or is of another kind.
func (s setting) usedBy(call api.Call) []int {
	if call.Kind != api.CallReconstruct && call.Kind != api.CallReconstructData || s.isLong() || s.errorOf(call) != api.OK {
		return nil
	}
	var key []int
	for i, shard := range call.Shards {
		if len(shard) == 0 {
			key = append(key, i)
		}
	}
	return key
}

// answer: the reply to the call, made alone.
func answer(e *Engine, call api.Call) api.Reply {
	switch call.Kind {
	case api.CallEncode:
		return api.Reply{Err: e.Encode(call.Shards)}
	case api.CallVerify:
		good, fault := e.Verify(call.Shards)
		return api.Reply{Good: good, Err: fault}
	case api.CallReconstruct:
		return api.Reply{Err: e.Reconstruct(call.Shards)}
	case api.CallReconstructData:
		return api.Reply{Err: e.ReconstructData(call.Shards)}
	case api.CallUpdate:
		return api.Reply{Err: e.Update(call.Shards, call.Fresh)}
	}
	return api.Reply{Err: api.ErrCall}
}

// call: one of any kind, mostly with arguments that are in order; of those that give back some miss parity alone.
func (d *dice) call(s setting, length int) api.Call {
	c := api.Call{Kind: 1 + d.next(5), Shards: d.shards(s.count(), length)}
	if d.next(3) == 0 {
		c.Shards = s.encoded(c.Shards)
	}
	switch {
	case c.Kind == api.CallUpdate:
		c.Fresh = without(d.shards(s.k, length), d.some(d.next(s.k+1), s.k))
	case c.Kind == api.CallReconstruct || c.Kind == api.CallReconstructData:
		missing := d.some(d.next(s.m+1), s.count())
		if d.next(4) == 0 {
			missing = s.parity()[d.next(s.m):]
		}
		c.Shards = without(c.Shards, missing)
	}
	switch d.next(12) {
	case 0:
		c.Shards = without(c.Shards, d.some(s.m+1, s.count()))
	case 1:
		c.Shards = c.Shards[1:]
	case 2:
		c.Shards[0] = d.bytes(length + 2)
	case 3:
		c.Kind = []int{-1, 0, 6, 9, 1 << 40}[d.next(5)]
	}
	return c
}

// Calls of all kinds, one after another: the keys are the model's behind each.
func TestCacheByScripts(t *testing.T) {
	d := dice(20)
	for _, s := range each([][2]int{{2, 1}, {3, 2}, {2, 4}, {4, 3}, {10, 4}}, api.Vander, api.Cauchy, api.Long) {
		for _, limit := range []int{1, 2, 3, 7, 1024} {
			o := s.options()
			o.Cache, o.Scripted = limit, limit == 3
			e, model := made(t, o), &keyList{limit: limit}
			for round := range 150 {
				call := d.call(s, 4)
				key := s.usedBy(call)
				if len(key) > 0 {
					model.use(key)
				}
				answer(e, call)
				if round%3 == 0 {
					e.Correct(d.shards(s.count(), 2))
					e.Split(d.bytes(5))
					e.Join(d.shards(s.k, 2), 1)
					e.Options()
				}
				if got := e.Cached(); !sameKeys(got, model.keys) {
					t.Fatalf("%v, room for %d, behind the kind %d with the key %v: %v, want %v", s, limit, call.Kind, key, got, model.keys)
				}
			}
			if s.isLong() && len(e.Cached()) > 0 {
				t.Fatalf("%v: %v is cached", s, e.Cached())
			}
		}
	}
}

// Room for as many plans as the greatest cache has, each of them of another loss; all still give the codeword back.
func TestGreatestCache(t *testing.T) {
	s := setting{api.Cauchy, 50, 3}
	o := s.options()
	o.Cache = api.MaxCache
	e, model := made(t, o), &keyList{limit: api.MaxCache}
	d := dice(21)
	whole := d.codeword(s, 2)
	for round := range 1200 {
		missing := []int{round % 50, 50 + round/50%3}
		if round >= 150 {
			missing = d.some(1+d.next(3), 53)
		}
		lost := without(whole, missing)
		model.use(missing)
		if fault := e.Reconstruct(lost); fault != api.OK || !alike(lost, whole) {
			t.Fatalf("Reconstruct without %v: %d, or other bytes", missing, fault)
		}
	}
	if !sameKeys(e.Cached(), model.keys) {
		t.Fatalf("%d keys, want %d", len(e.Cached()), len(model.keys))
	}
}

// The keys that are answered are new memory: what is done to them changes nothing.
func TestCachedIsNew(t *testing.T) {
	s := setting{api.Vander, 4, 3}
	e := made(t, s.options())
	d := dice(22)
	whole := d.codeword(s, 3)
	for _, missing := range [][]int{{0, 5}, {1}, {2, 3, 6}} {
		e.Reconstruct(without(whole, missing))
	}
	want := [][]int{{2, 3, 6}, {1}, {0, 5}}
	for range 3 {
		got := e.Cached()
		if !sameKeys(got, want) {
			t.Fatalf("%v, want %v", got, want)
		}
		for _, key := range got {
			for i := range key[:cap(key)] {
				key[:cap(key)][i] = 3
			}
			if others := e.Cached(); !sameKeys(others, want) {
				t.Fatalf("%v, want %v", others, want)
			}
		}
		clear(got[:cap(got)])
	}
	lost := without(whole, []int{0, 5})
	if fault := e.Reconstruct(lost); fault != api.OK || !alike(lost, whole) {
		t.Errorf("Reconstruct: %d, or other bytes", fault)
	}
}

// The chapter's second and third examples.
func TestCacheExamples(t *testing.T) {
	for limit, want := range map[int][][]int{4: {{2}, {0}}, 1: {{2}}} {
		o := setting{api.Vander, 2, 1}.options()
		o.Cache = limit
		e := made(t, o)
		shards := [][]byte{nil, {7, 1}, {1, 2}}
		if fault := e.Reconstruct(shards); fault != api.OK || !sameKeys(e.Cached(), [][]int{{0}}) {
			t.Errorf("Reconstruct: %d, %v", fault, e.Cached())
		}
		shards = [][]byte{{5, 0}, {7, 1}, {}}
		if fault := e.ReconstructData(shards); fault != api.OK || len(shards[2]) > 0 || !sameKeys(e.Cached(), want) {
			t.Errorf("ReconstructData: %d, %v, %v", fault, shards, e.Cached())
		}
		if fault := e.Reconstruct([][]byte{{5, 0}, nil, nil}); fault != api.ErrTooFew || !sameKeys(e.Cached(), want) {
			t.Errorf("Reconstruct of one shard: %d, %v", fault, e.Cached())
		}
	}
}
