package stream

import (
	"bytes"
	"errors"
	"fmt"
	"runtime"
	"slices"
	"sync"
	"testing"
	"time"

	"cullet/api"
	"cullet/engine"
	"cullet/pipes"
)

// P24.7, P24.8, P6, P1 and the document's rules.

// Through all calls, each over what the sinks of the one ahead hold: the bytes come back, whatever is lost and whatever the blocks are.
func TestThereAndBack(t *testing.T) {
	d := dice(61)
	for _, b := range benches(t, append(small(), middling()[:6]...)) {
		for range 12 {
			size := 1 + d.next(200)
			data := d.bytes(size)
			e := b.tried[d.next(len(b.tried))]
			block := func() int { return b.width() * (1 + d.next(30)) }
			again := func(lists [][]byte) []*pipes.Source { return sourcesOf(d.feeds(lists)) }

			first := openSinks(b.k)
			errs := []error{Split(e, block(), again([][]byte{data})[0], first, size)}
			parity := openSinks(b.m)
			errs = append(errs, Encode(e, block(), again(held(first)), parity))
			whole := slices.Concat(held(first), held(parity))
			good, err := Verify(e, block(), again(whole))
			errs = append(errs, err)

			there, wanted := again(whole), make([]*pipes.Sink, b.count())
			for range d.next(b.m + 1) {
				i := d.next(b.count())
				there[i], wanted[i] = nil, openSinks(1)[0]
			}
			errs = append(errs, Reconstruct(e, block(), there, wanted))
			for i, w := range wanted {
				if w != nil {
					whole[i] = w.Bytes()
				}
			}
			back := openSinks(1)[0]
			errs = append(errs, Join(e, block(), back, again(whole[:b.k]), size))
			if !good || !slices.Equal(errs, make([]error, 5)) || !bytes.Equal(back.Bytes(), data) {
				t.Fatalf("%v, %d bytes: %v, %v, or other bytes came back", b, size, errs, good)
			}
		}
	}
}

// framed: the list amid other entries, and all of them.
func framed[T any](list []*T) (inner, whole []*T) {
	whole = slices.Concat([]*T{new(T)}, list, []*T{new(T), nil, new(T)})
	return whole[1 : 1+len(list)], whole
}

// P24.8: the lists stay as they are, their spare room too, whatever the call answers.
func TestListsAreNotChanged(t *testing.T) {
	d := dice(62)
	for _, s := range small() {
		e := s.engine(t)
		for _, length := range []int{0, 2, 7, 8} {
			for _, failAt := range []int{-1, 3} {
				source := func(int) *pipes.Source {
					return pipes.NewSource(d.bytes(length), api.ReadPlan{FailAt: failAt})
				}
				lists := [][]*pipes.Source{make([]*pipes.Source, s.k), make([]*pipes.Source, s.count()), make([]*pipes.Source, s.count())}
				for _, list := range lists {
					for i := range list {
						list[i] = source(i)
					}
				}
				clear(lists[2][:s.m])
				wanted := append(openSinks(s.m), make([]*pipes.Sink, s.k)...)
				unchanged(t, lists[0], openSinks(s.m), func(data []*pipes.Source, parity []*pipes.Sink) { Encode(e, 4, data, parity) })
				unchanged(t, lists[1], nil, func(shards []*pipes.Source, _ []*pipes.Sink) { Verify(e, 4, shards) })
				unchanged(t, lists[2], wanted, func(there []*pipes.Source, wanted []*pipes.Sink) { Reconstruct(e, 4, there, wanted) })
				unchanged(t, lists[0], openSinks(1), func(shards []*pipes.Source, dst []*pipes.Sink) { Join(e, 4, dst[0], shards, 9) })
				unchanged(t, lists[0], openSinks(s.k), func(src []*pipes.Source, dst []*pipes.Sink) { Split(e, 4, src[0], dst, 7) })
			}
		}
	}
}

// unchanged: the call leaves both lists, and what lies about them, as they are.
func unchanged(t *testing.T, sources []*pipes.Source, sinks []*pipes.Sink, call func(sources []*pipes.Source, sinks []*pipes.Sink)) {
	t.Helper()
	a, wholeA := framed(sources)
	b, wholeB := framed(sinks)
	wasA, wasB := slices.Clone(wholeA), slices.Clone(wholeB)
	call(a, b)
	if !slices.Equal(wholeA, wasA) || !slices.Equal(wholeB, wasB) {
		t.Error("a list has changed")
	}
}

// Nil and empty lists are one: of none that is long enough for any code.
func TestNilAndEmptyLists(t *testing.T) {
	for _, s := range small() {
		e := s.engine(t)
		for _, sources := range [][]*pipes.Source{nil, {}} {
			for _, sinks := range [][]*pipes.Sink{nil, {}} {
				_, verifying := Verify(e, 2, sources)
				for i, err := range []error{
					Split(e, 2, plainSources(nil)[0], sinks, 1),
					Join(e, 2, openSinks(1)[0], sources, 1),
					Encode(e, 2, sources, sinks),
					verifying,
					Reconstruct(e, 2, sources, sinks),
				} {
					if err != api.ErrCount {
						t.Errorf("%v, the call %d of no lists: %v", s, i, err)
					}
				}
			}
		}
	}
}

// An answer is nil, an Errno, or the failure of a source or a sink itself: the same pointer, not wrapped.
func TestErrorsAreTheVeryOnes(t *testing.T) {
	e := setting{api.Vander, 1, 1}.engine(t)
	breaks := func() *pipes.Source { return pipes.NewSource([]byte{1, 2}, api.ReadPlan{FailAt: 1, Code: 5}) }
	full := func() *pipes.Sink { return pipes.NewSink(api.WritePlan{FailAt: 1, Code: 6}) }
	works := func() *pipes.Source { return plainSources([]byte{1, 2})[0] }
	open := func() *pipes.Sink { return openSinks(1)[0] }
	for _, c := range []struct {
		what string
		src  *pipes.Source
		dst  *pipes.Sink
		call func(src *pipes.Source, dst *pipes.Sink) error
	}{
		{"Split", breaks(), open(), func(src *pipes.Source, dst *pipes.Sink) error { return Split(e, 1, src, []*pipes.Sink{dst}, 2) }},
		{"Split", works(), full(), func(src *pipes.Source, dst *pipes.Sink) error { return Split(e, 1, src, []*pipes.Sink{dst}, 2) }},
		{"Join", breaks(), open(), func(src *pipes.Source, dst *pipes.Sink) error { return Join(e, 1, dst, []*pipes.Source{src}, 2) }},
		{"Join", works(), full(), func(src *pipes.Source, dst *pipes.Sink) error { return Join(e, 1, dst, []*pipes.Source{src}, 2) }},
		{"Encode", breaks(), open(), func(src *pipes.Source, dst *pipes.Sink) error {
			return Encode(e, 1, []*pipes.Source{src}, []*pipes.Sink{dst})
		}},
		{"Encode", works(), full(), func(src *pipes.Source, dst *pipes.Sink) error {
			return Encode(e, 1, []*pipes.Source{src}, []*pipes.Sink{dst})
		}},
		{"Verify", breaks(), nil, func(src *pipes.Source, _ *pipes.Sink) error {
			good, err := Verify(e, 1, []*pipes.Source{src, works()})
			if good {
				return nil
			}
			return err
		}},
		{"Reconstruct", breaks(), open(), func(src *pipes.Source, dst *pipes.Sink) error {
			return Reconstruct(e, 1, []*pipes.Source{nil, src}, []*pipes.Sink{dst, nil})
		}},
		{"Reconstruct", works(), full(), func(src *pipes.Source, dst *pipes.Sink) error {
			return Reconstruct(e, 1, []*pipes.Source{nil, src}, []*pipes.Sink{dst, nil})
		}},
	} {
		want := c.src.Failure()
		if want == nil {
			want = c.dst.Failure()
		}
		err := c.call(c.src, c.dst)
		if err != want || errors.Unwrap(err) != nil {
			t.Errorf("%s: %v, it is to be %v itself", c.what, err, want)
		}
		if c.dst != nil && !bytes.Equal(c.dst.Bytes(), []byte{1}) {
			t.Errorf("%s: the sink holds %v", c.what, c.dst.Bytes())
		}
	}
}

// One source or sink in several places: the calls end.
func TestOneInTwoPlaces(t *testing.T) {
	d := dice(63)
	for _, s := range small() {
		for _, e := range s.engines(t) {
			for _, length := range []int{0, 1, 6, 40} {
				source := func() *pipes.Source { return d.feed(d.bytes(length)).source }
				endsQuietly(t, fmt.Sprintf("%v, %d bytes", s, length), func() {
					Split(e, 2, source(), slices.Repeat(openSinks(1), s.k), 1+length)
					Join(e, 2, openSinks(1)[0], slices.Repeat([]*pipes.Source{source()}, s.k), 1+length)
					Encode(e, 2, slices.Repeat([]*pipes.Source{source()}, s.k), slices.Repeat(openSinks(1), s.m))
					Verify(e, 2, slices.Repeat([]*pipes.Source{source()}, s.count()))
					there := append(make([]*pipes.Source, s.m), slices.Repeat([]*pipes.Source{source()}, s.k)...)
					wanted := append(slices.Repeat(openSinks(1), s.m), make([]*pipes.Sink, s.k)...)
					Reconstruct(e, 2, there, wanted)
				})
			}
		}
	}
}

// Of engines, sources and sinks that no maker made it is promised that the calls end.
func TestMadeOtherwise(t *testing.T) {
	for _, s := range small() {
		e := s.engine(t)
		copied := *e
		for _, x := range []*engine.Engine{{}, &copied, e} {
			source, sink := *plainSources([]byte{1, 2, 3, 4, 5})[0], *openSinks(1)[0]
			for _, src := range []*pipes.Source{{}, &source} {
				for _, dst := range []*pipes.Sink{{}, &sink} {
					sinks := slices.Repeat([]*pipes.Sink{dst}, s.count())
					sources := slices.Repeat([]*pipes.Source{src}, s.count())
					endsQuietly(t, fmt.Sprint(s), func() {
						Split(x, 2, src, sinks[:s.k], 4)
						Join(x, 2, dst, sources[:s.k], 4)
						Encode(x, 2, sources[:s.k], sinks[:s.m])
						Verify(x, 2, sources)
						Reconstruct(x, 2, append(slices.Clone(sources[:s.k]), make([]*pipes.Source, s.m)...), append(make([]*pipes.Sink, s.k), sinks[:s.m]...))
					})
				}
			}
		}
	}
}

// Streams of several goroutines over one engine, each with sources and sinks of its own, among calls in memory (the race detector's test too).
func TestStreamsInCompany(t *testing.T) {
	for _, b := range benches(t, each([][2]int{{4, 3}, {10, 4}}, api.Vander, api.Cauchy, api.Long)) {
		d := dice(64)
		whole := b.encoded(d.shards(b.k, 24))
		for _, e := range b.tried {
			var all sync.WaitGroup
			for i := range 8 {
				all.Go(func() { b.streams(t, e, whole, dice(i)) })
			}
			all.Wait()
		}
	}
}

// streams: several calls over the codeword.
func (b *bench) streams(t *testing.T, e *engine.Engine, whole [][]byte, d dice) {
	for range 5 {
		block := b.width() * (1 + d.next(15))
		parity := openSinks(b.m)
		if err := Encode(e, block, sourcesOf(d.feeds(whole[:b.k])), parity); err != nil || !alike(held(parity), whole[b.k:]) {
			t.Errorf("Encode in company: %v, or other bytes", err)
		}
		if good, err := Verify(e, block, sourcesOf(d.feeds(whole))); !good || err != nil {
			t.Errorf("Verify in company: %v, %v", good, err)
		}
		there, wanted := sourcesOf(d.feeds(whole)), make([]*pipes.Sink, b.count())
		lost := d.next(b.k)
		there[lost], wanted[lost] = nil, openSinks(1)[0]
		if err := Reconstruct(e, block, there, wanted); err != nil || !bytes.Equal(wanted[lost].Bytes(), whole[lost]) {
			t.Errorf("Reconstruct in company: %v, or other bytes", err)
		}
		shards := copies(whole)
		shards[lost] = nil
		if fault := e.Reconstruct(shards); fault != api.OK || !alike(shards, whole) {
			t.Errorf("the engine's Reconstruct in company: %d, or other bytes", fault)
		}
	}
}

// What a call answers doesn't depend on the calls ahead of it on that engine, whichever they were and however they ended.
func TestNothingIsKept(t *testing.T) {
	d := dice(65)
	for _, s := range small() {
		b := newBench(t, s)
		e := b.tried[0]
		for range 60 {
			length, block := b.width()*(1+d.next(9)), b.width()*(1+d.next(5))
			shards := b.encoded(d.shards(b.k, length))
			Split(e, block, d.brittle(shards[0]).source, openSinks(b.k), 1+d.next(99))
			Encode(e, block, sourcesOf(d.brittles(shards[:b.k])), sinksOf(d.drains(b.m, length)))
			Verify(e, block, sourcesOf(d.brittles(shards)))
			what := fmt.Sprintf("%v, behind other calls", b)
			if err := b.tryEncode(t, what, e, block, d.feeds(shards[:b.k]), openDrains(b.m)); err != nil {
				t.Fatalf("%s: %v", what, err)
			}
			if good, err := b.tryVerify(t, what, e, block, d.feeds(shards)); !good || err != nil {
				t.Fatalf("%s: %v, %v", what, good, err)
			}
		}
	}
}

// All goroutines that a call has started have ended when it answers. (One that has done its last act may still be counted for a moment.)
func TestNoGoroutineIsLeft(t *testing.T) {
	d := dice(66)
	for _, b := range benches(t, each([][2]int{{5, 3}}, api.Vander, api.Long)) {
		whole := b.encoded(d.shards(b.k, 60))
		for _, e := range b.tried {
			was := runtime.NumGoroutine()
			for range 10 {
				Encode(e, 16, sourcesOf(d.brittles(whole[:b.k])), sinksOf(d.drains(b.m, 60)))
				Verify(e, 16, sourcesOf(d.feeds(whole)))
				there, wanted := sourcesOf(d.feeds(whole)), make([]*pipes.Sink, b.count())
				there[2], wanted[2] = nil, openSinks(1)[0]
				Reconstruct(e, 16, there, wanted)
			}
			for wait := 0; runtime.NumGoroutine() > was && wait < 2000; wait++ {
				time.Sleep(time.Millisecond)
			}
			if now := runtime.NumGoroutine(); now > was {
				t.Fatalf("%v: %d goroutines, and %d ahead", b, now, was)
			}
		}
	}
}
