package engine

import (
	"slices"
	"sync"
	"sync/atomic"
	"testing"
	"time"

	"cullet/api"
	"cullet/crew"
)

// Which spans are done, when and by how many: of this the answers tell nothing, so a codec that watches is put in the place of the engine's own.

// done is a span that was worked at, and the number of the call whose it was.
type done struct {
	call int
	span api.Span
}

// watcher is a codec that notes what it is asked for.
type watcher struct {
	codec
	mutex sync.Mutex
	calls map[*byte]int // by the first byte of a shard
	log   []done
	hold  func() // called within each span
}

func (w *watcher) note(shards [][]byte, span api.Span) {
	w.mutex.Lock()
	call := -1
	for _, shard := range shards {
		if number, found := w.calls[&shard[0]]; found {
			call = number
		}
	}
	w.log = append(w.log, done{call, span})
	w.mutex.Unlock()
	w.hold()
}

func (w *watcher) EncodeSpan(shards [][]byte, span api.Span) api.Errno {
	w.note(shards, span)
	return w.codec.EncodeSpan(shards, span)
}

func (w *watcher) VerifySpan(shards [][]byte, span api.Span) (bool, api.Errno) {
	w.note(shards, span)
	return w.codec.VerifySpan(shards, span)
}

func (w *watcher) UpdateSpan(shards, fresh [][]byte, span api.Span) api.Errno {
	w.note(shards, span)
	return w.codec.UpdateSpan(shards, fresh, span)
}

func (w *watcher) Fill(p api.Plan, shards [][]byte, span api.Span) api.Errno {
	w.note(shards, span)
	return w.codec.Fill(p, shards, span)
}

// watched: a new engine, and what watches its spans.
func watched(t *testing.T, o api.Options) (*Engine, *watcher) {
	t.Helper()
	e := made(t, o)
	w := &watcher{codec: newCodec(o), calls: map[*byte]int{}, hold: func() {}}
	e.kept.spans.once.Do(func() { e.kept.spans.codec = w })
	return e, w
}

// everyKind: a call of each kind over a codeword, none of which is without work.
func (d *dice) everyKind(s setting, length int) []api.Call {
	return []api.Call{
		{Kind: api.CallEncode, Shards: d.codeword(s, length)},
		{Kind: api.CallVerify, Shards: d.codeword(s, length)},
		{Kind: api.CallReconstruct, Shards: without(d.codeword(s, length), []int{0})},
		{Kind: api.CallReconstructData, Shards: without(d.codeword(s, length), []int{0})},
		{Kind: api.CallUpdate, Shards: d.codeword(s, length), Fresh: d.shards(s.k, s.fit(length))},
	}
}

// Alone, each call does the spans of the stripe, each once; workers that are scripted in the order that the picks say, from their beginning on in each call.
func TestSpansOfWorkers(t *testing.T) {
	d := dice(60)
	for _, s := range each([][2]int{{2, 1}, {3, 2}}, api.Vander, api.Cauchy, api.Long) {
		for _, o := range s.manyOptions() {
			for range 4 {
				o.Workers, o.Stripe, o.Picks = 1+d.next(4), 1+d.next(6), d.picks(d.next(60), 5)
				e, w := watched(t, o)
				for _, call := range d.everyKind(s, 1+d.next(20)) {
					w.log = nil
					answer(e, call)
					checkSpans(t, o, s, call, w.log)
				}
			}
		}
	}
}

func checkSpans(t *testing.T, o api.Options, s setting, call api.Call, log []done) {
	t.Helper()
	spans := s.cut(call, o.Stripe)
	want := spans
	if o.Scripted {
		want = nil
		crew.Scripted(o.Picks, o.Workers, spans, func(span api.Span) api.Errno {
			want = append(want, span)
			return api.OK
		})
	}
	var got []api.Span
	for _, x := range log {
		got = append(got, x.span)
	}
	if !o.Scripted {
		slices.SortFunc(got, func(a, b api.Span) int { return a.From - b.From })
	}
	if !slices.Equal(got, want) {
		t.Fatalf("%+v, the kind %d: the spans %v, want %v", o, call.Kind, got, want)
	}
}

// cut: the spans of the call's length, of Long of whole words.
func (s setting) cut(call api.Call, stripe int) []api.Span {
	step := max(s.width(), stripe/s.width()*s.width())
	length := kinds(call.Shards)[0]
	var list []api.Span
	for from := 0; from < length; from += step {
		list = append(list, api.Span{From: from, To: min(from+step, length)})
	}
	return list
}

// As many workers as the options say are at work at one time, no more.
func TestWorkersAtOneTime(t *testing.T) {
	s := setting{api.Cauchy, 2, 1}
	d := dice(61)
	for _, workers := range []int{1, 2, 5, 64} {
		o := s.options()
		o.Workers, o.Stripe = workers, 1
		e, w := watched(t, o)
		var now, most atomic.Int64
		deadline := time.Now().Add(5 * time.Second)
		w.hold = func() {
			n := now.Add(1)
			for was := most.Load(); n > was && !most.CompareAndSwap(was, n); was = most.Load() {
			}
			// Each waits for the others a while, so that all that can be at work are.
			for most.Load() < int64(workers) && time.Now().Before(deadline) {
				time.Sleep(time.Millisecond)
			}
			now.Add(-1)
		}
		if fault := e.Encode(d.shards(3, 3*workers)); fault != api.OK || most.Load() != int64(workers) {
			t.Errorf("%d workers: %d, %d at one time", workers, fault, most.Load())
		}
	}
}

// In company the spans are done in the turns that the chapter tells.
func TestSpansInCompany(t *testing.T) {
	d := dice(62)
	for _, s := range each([][2]int{{2, 1}, {3, 2}}, api.Vander, api.Cauchy, api.Long) {
		for range 200 {
			o := s.options()
			o.Workers, o.Stripe, o.Scripted, o.Picks = 1+d.next(9), 1+d.next(5), d.next(2) == 0, d.picks(9, 9)
			e, w := watched(t, o)
			calls := append(d.everyKind(s, 1+d.next(9)), d.everyKind(s, 1+d.next(9))...)
			for i, call := range calls {
				w.calls[&call.Shards[1][0]] = i
			}
			picks := d.picks(d.next(90), 12)
			_, want := s.played(picks, calls, o.Stripe)
			if replies, fault := e.Together(picks, calls); fault != api.OK || len(replies) != len(calls) || !slices.Equal(w.log, want) {
				t.Fatalf("Together, %+v, picks %v: %v, want %v", o, picks, w.log, want)
			}
		}
	}
}

// The codec is made at first need: neither by New nor by calls that are refused; and then once.
func TestCodecAtFirstNeed(t *testing.T) {
	for _, s := range small() {
		e := made(t, s.options())
		e.Encode(nil)
		e.Verify(shardsOf(1))
		e.Reconstruct(make([][]byte, s.count()))
		e.Together(nil, []api.Call{{Kind: 9}, {Kind: api.CallEncode}})
		e.Options()
		e.Cached()
		if e.kept.spans.codec != nil || e.kept.plans.codec != nil {
			t.Fatalf("%v: a codec ahead of any need", s)
		}
		e.Encode(shardsOf(slices.Repeat([]int{2}, s.count())...))
		first := e.kept.spans.codec
		e.Encode(shardsOf(slices.Repeat([]int{2}, s.count())...))
		if first == nil || e.kept.spans.codec != first {
			t.Fatalf("%v: no codec behind Encode, or another one behind the next", s)
		}
	}
}
