package stream

import (
	"bytes"
	"fmt"
	"slices"
	"testing"

	"cullet/api"
	"cullet/pipes"
)

// P24.3, by Encode, Verify and Reconstruct alike.

// byAll has Encode, Verify and Reconstruct go over sources that mend makes of the bytes, once each against the model; it answers their errors. Of Verify and Reconstruct the shards stand in the places of their numbers, and Reconstruct has as many of them as there are data shards, the last ones.
func (b *bench) byAll(t *testing.T, what string, block int, list [][]byte, mend func(shard []byte) *feed) []error {
	t.Helper()
	feeds := func(from, to int) []*feed {
		var all []*feed
		for _, shard := range list[from:to] {
			all = append(all, mend(shard))
		}
		return all
	}
	e := b.tried[block%len(b.tried)]
	encoding := b.tryEncode(t, what+", Encode", e, block, feeds(0, b.k), openDrains(b.m))
	_, verifying := b.tryVerify(t, what+", Verify", e, block, feeds(0, b.count()))
	there := append(make([]*feed, b.m), feeds(b.m, b.count())...)
	wanted := append(openDrains(b.m), make([]*drain, b.k)...)
	restoring := b.tryReconstruct(t, what+", Reconstruct", e, block, there, wanted)
	return []error{encoding, verifying, restoring}
}

// All lists of short lengths: of 0 bytes everywhere ErrEmpty, of unlike numbers ErrUneven, of odd ones of Long ErrOdd, each in the round that shows it.
func TestRoundsOfAllShortLengths(t *testing.T) {
	d := dice(21)
	for _, b := range benches(t, each([][2]int{{1, 1}, {2, 1}, {1, 2}, {2, 2}}, api.Vander, api.Cauchy, api.Long)) {
		lengths := []int{0, 1, 2, 3, 4}
		if b.count() == 4 {
			lengths = []int{0, 2, 3, 4}
		}
		countLists(b.count(), len(lengths), func(list []int) {
			var shards [][]byte
			for _, n := range list {
				shards = append(shards, make([]byte, lengths[n]))
			}
			for block := b.width(); block <= 5; block += b.width() {
				b.byAll(t, fmt.Sprintf("%v, the lengths %v of %v, block %d", b, list, lengths, block), block, shards, d.feed)
			}
		})
	}
}

// The errors of the lengths by name: the same length everywhere, in the round that it ends in.
func TestRoundsOfOneLength(t *testing.T) {
	d := dice(22)
	for _, b := range benches(t, small()) {
		for length := range 20 {
			for block := b.width(); block <= 10; block += b.width() {
				what := fmt.Sprintf("%v, %d bytes, block %d", b, length, block)
				shards := slices.Repeat([][]byte{make([]byte, length)}, b.count())
				var want error
				switch {
				case length == 0:
					want = api.ErrEmpty
				case length%b.width() == 1:
					want = api.ErrOdd
				}
				for _, err := range b.byAll(t, what, block, shards, d.feed) {
					if err != want {
						t.Fatalf("%s: %v, it is to be %v", what, err, want)
					}
				}
			}
		}
	}
}

// One source that gives a byte more or less than the others, at every place: ErrUneven, ahead of ErrOdd, whatever the number of rounds.
func TestRoundsOfAnotherLength(t *testing.T) {
	d := dice(23)
	for _, b := range benches(t, each([][2]int{{3, 2}, {10, 4}}, api.Vander, api.Cauchy, api.Long)) {
		for _, length := range []int{4, 8, 9} {
			for _, other := range []int{0, 1, length - 1, length + 1, length + 4} {
				for i := range b.k {
					for _, block := range []int{2, 4, 6, 100} {
						// Of the places that Encode, Verify and Reconstruct have in common.
						shards := slices.Repeat([][]byte{make([]byte, length)}, b.count())
						shards[i] = make([]byte, other)
						what := fmt.Sprintf("%v, %d bytes, at %d %d, block %d", b, length, i, other, block)
						errs := b.byAll(t, what, block, shards, d.feed)
						if errs[0] != api.ErrUneven || errs[1] != api.ErrUneven {
							t.Fatalf("%s: %v", what, errs)
						}
						if at := max(i, b.m); errs[2] != api.ErrUneven && at == i {
							t.Fatalf("%s: %v", what, errs)
						}
					}
				}
			}
		}
	}
}

// A failure is answered at once: sources behind it aren't read, and it is told ahead of what is wrong with the lengths.
func TestRoundsBreak(t *testing.T) {
	d := dice(24)
	for _, b := range benches(t, each([][2]int{{3, 2}}, api.Vander, api.Long)) {
		for broken := range b.count() {
			for at := range 9 {
				for _, block := range []int{2, 4, 8, 10} {
					var list []*feed
					for i := range b.count() {
						plan := api.ReadPlan{Chunks: d.chunks(), FailAt: -1, Code: i}
						length := 8
						if i == broken {
							plan.FailAt = at
						}
						if i > broken {
							length = 3
						}
						list = append(list, newFeed(make([]byte, length), plan))
					}
					what := fmt.Sprintf("%v, the source %d breaks at %d, block %d", b, broken, at, block)
					good, err := b.tryVerify(t, what, b.tried[0], block, list)
					// A round that is full ahead of the break, and uneven by the sources behind, is told first.
					if at < block && (good || err != list[broken].source.Failure()) {
						t.Fatalf("%s: %v, %v", what, good, err)
					}
					for i, f := range list {
						if at < block && (i > broken && f.given != 0 || i < broken && f.given != min(block, 8)) {
							t.Fatalf("%s: %d bytes of the source %d were read", what, f.given, i)
						}
					}
				}
			}
		}
	}
}

// A call is done with the first round that isn't full; behind a full one there is another, which may give nothing. (How often a source was asked is seen by its turns and its break.)
func TestRoundsEnd(t *testing.T) {
	b := newBench(t, setting{api.Vander, 1, 1})
	for length := 1; length < 12; length++ {
		for block := 1; block < 14; block++ {
			// Broken just where it ends: it is asked there in any case, for a round that isn't full has come to the end.
			src := newFeed(make([]byte, length), api.ReadPlan{FailAt: length})
			what := fmt.Sprintf("%d bytes and a break, block %d", length, block)
			if err := b.tryEncode(t, what, b.tried[0], block, []*feed{src}, openDrains(1)); err != src.source.Failure() {
				t.Errorf("%s: %v", what, err)
			}
			src = newFeed(make([]byte, length), api.ReadPlan{Chunks: []int{2, 0, 0}, FailAt: -1})
			par := openDrains(1)
			if err := b.tryEncode(t, what, b.tried[0], block, []*feed{src}, par); err != nil || len(par[0].taken) != length {
				t.Errorf("%s: %v, %d bytes", what, err, len(par[0].taken))
			}
		}
	}
}

// P6: waits for sources that give nothing, up to ninety-nine times one after another.
func TestRoundsOfSlowSources(t *testing.T) {
	for _, b := range benches(t, []setting{{api.Vander, 2, 1}, {api.Long, 1, 2}}) {
		shards := slices.Repeat([][]byte{make([]byte, 6)}, b.count())
		for nothings := 97; nothings <= 102; nothings++ {
			slow := func(shard []byte) *feed {
				return newFeed(shard, api.ReadPlan{Chunks: append(slices.Repeat([]int{0}, nothings), 1), FailAt: -1})
			}
			var want error
			if nothings >= 100 {
				want = api.ErrShort
			}
			for _, block := range []int{2, 4, 6, 8} {
				what := fmt.Sprintf("%v, %d reads of nothing, block %d", b, nothings, block)
				for _, err := range b.byAll(t, what, block, shards, slow) {
					if err != want {
						t.Errorf("%s: %v, it is to be %v", what, err, want)
					}
				}
			}
		}
	}
}

// The greatest blocks: a round of 2^26 bytes in all, and one of a byte or a word behind it.
func TestRoundsOfGreatBlocks(t *testing.T) {
	d := dice(25)
	for _, o := range []api.Options{{Family: api.Vander, Backend: api.Sliced, Data: 62, Parity: 2}, {Family: api.Long, Backend: api.Fast, Data: 4, Parity: 2}} {
		o.Workers, o.Stripe, o.Cache = 8, 1<<16, 1
		b := &bench{setting{o.Family, o.Data, o.Parity}, nil, made(t, o)}
		data := d.shards(b.k, 1<<20+b.width())
		want := b.encoded(data)
		parity := openSinks(b.m)
		if err := Encode(b.memory, 1<<20, plainSources(data...), parity); err != nil || !alike(held(parity), want[b.k:]) {
			t.Fatalf("%v, Encode: %v, or other bytes", b, err)
		}
		if good, err := Verify(b.memory, 1<<20, plainSources(want...)); !good || err != nil {
			t.Fatalf("%v, Verify: %v, %v", b, good, err)
		}
		there, wanted := plainSources(want...), make([]*pipes.Sink, b.count())
		there[1], wanted[1] = nil, openSinks(1)[0]
		if err := Reconstruct(b.memory, 1<<20, there, wanted); err != nil || !bytes.Equal(wanted[1].Bytes(), want[1]) {
			t.Fatalf("%v, Reconstruct: %v, or other bytes", b, err)
		}
	}
}

// More shards than one can look at, in small rounds.
func TestRoundsOfManyShards(t *testing.T) {
	d := dice(26)
	for _, s := range []setting{{api.Long, 4000, 96}, {api.Long, 20, 1000}} {
		b := &bench{s, nil, made(t, api.Options{Family: s.f, Backend: api.Fast, Data: s.k, Parity: s.m, Workers: 1, Stripe: 64, Cache: 1})}
		data := d.shards(s.k, 10)
		want := b.encoded(data)
		parity := openSinks(s.m)
		if err := Encode(b.memory, 4, plainSources(data...), parity); err != nil || !alike(held(parity), want[s.k:]) {
			t.Fatalf("%v, Encode: %v, or other bytes", b, err)
		}
		there, wanted := plainSources(want...), make([]*pipes.Sink, s.count())
		for i := range s.m {
			there[i], wanted[i] = nil, openSinks(1)[0]
		}
		if err := Reconstruct(b.memory, 4, there, wanted); err != nil || !alike(held(wanted[:s.m]), want[:s.m]) {
			t.Fatalf("%v, Reconstruct: %v, or other bytes", b, err)
		}
	}
}
