package stream

import (
	"bytes"
	"fmt"
	"math"
	"slices"
	"testing"

	"cullet/api"
	"cullet/pipes"
)

// P24.1

func TestSplitExamples(t *testing.T) {
	e := setting{api.Vander, 2, 1}.engine(t)
	for _, c := range []struct {
		data  []byte
		plan  api.ReadPlan
		size  int
		err   error
		first []byte
		then  []byte
	}{
		{[]byte{1, 2, 3, 4, 5}, api.ReadPlan{FailAt: -1}, 5, nil, []byte{1, 2, 3}, []byte{4, 5, 0}},
		{[]byte{1, 2, 3, 4, 5}, api.ReadPlan{Chunks: []int{1, 0}, FailAt: -1}, 5, nil, []byte{1, 2, 3}, []byte{4, 5, 0}},
		{[]byte{1, 2, 3, 4}, api.ReadPlan{FailAt: -1}, 5, api.ErrShort, []byte{1, 2, 3}, nil},
		{[]byte{1, 2, 3, 4, 5, 6, 7}, api.ReadPlan{FailAt: -1}, 5, nil, []byte{1, 2, 3}, []byte{4, 5, 0}},
		{[]byte{9}, api.ReadPlan{FailAt: -1}, 1, nil, []byte{9}, []byte{0}},
		{nil, api.ReadPlan{FailAt: -1}, 1, api.ErrShort, nil, nil},
	} {
		src, dst := pipes.NewSource(c.data, c.plan), openSinks(2)
		if err := Split(e, 2, src, dst, c.size); err != c.err || !alike(held(dst), [][]byte{c.first, c.then}) {
			t.Errorf("Split of %v, size %d: %v, %v", c.data, c.size, err, held(dst))
		}
		if src.Taken() != min(len(c.data), c.size) {
			t.Errorf("Split of %v, size %d: %d bytes were read", c.data, c.size, src.Taken())
		}
	}
	// Example 8 of the whole: a source that breaks behind four bytes.
	src, dst := pipes.NewSource([]byte{1, 2, 3, 4, 5}, api.ReadPlan{FailAt: 4, Code: 7}), openSinks(2)
	if err := Split(e, 2, src, dst, 5); err != src.Failure() || !alike(held(dst), [][]byte{{1, 2, 3}, nil}) {
		t.Errorf("Split of a source that breaks: %v, %v", err, held(dst))
	}
	// Of Long the shards are of whole words.
	src, dst = pipes.NewSource([]byte{1, 2, 3, 4, 5}, api.ReadPlan{FailAt: -1}), openSinks(2)
	if err := Split(setting{api.Long, 2, 1}.engine(t), 2, src, dst, 5); err != nil || !alike(held(dst), [][]byte{{1, 2, 3, 4}, {5, 0, 0, 0}}) {
		t.Errorf("Split of Long: %v, %v", err, held(dst))
	}
}

// P24.7 and P6: whatever the chunks and the block, the sinks hold the data shards of the engine's Split, and no more than size bytes are read.
func TestSplitAsInMemory(t *testing.T) {
	d := dice(1)
	for _, b := range benches(t, small()) {
		for size := 1; size <= 40; size++ {
			data := d.bytes(size)
			want, _ := b.memory.Split(data)
			for block := b.width(); block <= 12; block += b.width() {
				src, dst := d.feed(append(bytes.Clone(data), d.bytes(d.next(3))...)), openDrains(b.k)
				what := fmt.Sprintf("%v, Split of %d bytes, block %d, chunks %v", b, size, block, src.plan.Chunks)
				if err := b.trySplit(t, what, b.tried[block%len(b.tried)], block, src, dst, size); err != nil {
					t.Fatalf("%s: %v", what, err)
				}
				if !alike(held(sinksOf(dst)), want[:b.k]) || src.given != size {
					t.Fatalf("%s: other shards than the engine's, or %d bytes were read", what, src.given)
				}
			}
		}
	}
}

func TestSplitOfMoreShards(t *testing.T) {
	d := dice(2)
	for _, b := range benches(t, append(middling(), setting{api.Vander, 255, 1}, setting{api.Long, 5000, 2})) {
		for _, size := range []int{1, 2, b.k - 1, b.k, b.k + 1, 2*b.k + 1, 7*b.k - 1, 9*b.k + 1} {
			data := d.bytes(size)
			want, _ := b.memory.Split(data)
			for _, block := range []int{2, 4, 1000} {
				src, dst := d.feed(data), openDrains(b.k)
				what := fmt.Sprintf("%v, Split of %d bytes, block %d", b, size, block)
				if err := b.trySplit(t, what, b.tried[0], block, src, dst, size); err != nil || !alike(held(sinksOf(dst)), want[:b.k]) {
					t.Fatalf("%s: %v, or other shards than the engine's", what, err)
				}
			}
		}
	}
}

// Every place at which a source or a sink can break, and every number of bytes that a source can be short of.
func TestSplitBrokenAnywhere(t *testing.T) {
	d := dice(3)
	for _, b := range benches(t, each([][2]int{{1, 1}, {3, 1}}, api.Vander, api.Long)) {
		for _, size := range []int{1, 5, 11, 12} {
			data := d.bytes(size)
			for block := b.width(); block <= 6; block += b.width() {
				what := fmt.Sprintf("%v, Split of %d bytes, block %d", b, size, block)
				for at := range size + 2 {
					src := newFeed(data, api.ReadPlan{Chunks: d.chunks(), FailAt: at, Code: at})
					err := b.trySplit(t, what, b.tried[0], block, src, openDrains(b.k), size)
					if at < size && err != src.source.Failure() || at >= size && err != nil {
						t.Fatalf("%s: of a source that breaks at %d: %v", what, at, err)
					}
					err = b.trySplit(t, what, b.tried[0], block, d.feed(data[:min(at, size)]), openDrains(b.k), size)
					if at < size && err != api.ErrShort || at >= size && err != nil {
						t.Fatalf("%s: of a source of %d bytes: %v", what, at, err)
					}
					for j := range b.k {
						dst := openDrains(b.k)
						dst[j] = newDrain(api.WritePlan{FailAt: at, Code: at})
						b.trySplit(t, what, b.tried[0], block, d.feed(data), dst, size)
					}
				}
			}
		}
	}
}

func TestSplitThrown(t *testing.T) {
	d := dice(4)
	for _, b := range benches(t, append(small(), middling()[:6]...)) {
		for range 300 {
			size := 1 + d.next(60)
			block := b.width() * (1 + d.next(9))
			src, dst := d.brittle(d.bytes(size)), d.drains(b.k, (size+b.k)/b.k)
			what := fmt.Sprintf("%v, Split of %d bytes, block %d, %+v", b, size, block, src.plan)
			b.trySplit(t, what, b.tried[d.next(len(b.tried))], block, src, dst, size)
		}
	}
}

// A piece is read all at once: a source that gives nothing a hundred times one after another is told, one that does so ninety-nine times is waited for, and the wait begins anew with each byte.
func TestSplitOfSlowSources(t *testing.T) {
	b := newBench(t, setting{api.Vander, 2, 1})
	data := []byte{1, 2, 3, 4, 5}
	for nothings := 97; nothings <= 102; nothings++ {
		for block := 1; block <= 4; block++ {
			plan := api.ReadPlan{Chunks: append(slices.Repeat([]int{0}, nothings), 1), FailAt: -1}
			src, dst := newFeed(data, plan), openDrains(2)
			err := b.trySplit(t, fmt.Sprintf("%d reads of nothing, block %d", nothings, block), b.tried[0], block, src, dst, 5)
			if nothings < 100 && err != nil || nothings >= 100 && err != api.ErrShort {
				t.Errorf("%d reads of nothing, block %d: %v", nothings, block, err)
			}
		}
	}
}

// Of sizes up to the limit the source is read as far as it goes.
func TestSplitOfGreatSizes(t *testing.T) {
	d := dice(5)
	for _, b := range benches(t, []setting{{api.Vander, 2, 1}, {api.Cauchy, 40, 24}, {api.Long, 2, 1}}) {
		for _, size := range []int{1 << 40, 1<<40 - 1, 1 << 35} {
			src, dst := newFeed(d.bytes(1<<20+5), api.ReadPlan{FailAt: -1}), openDrains(b.k)
			if err := b.trySplit(t, "a great size", b.tried[0], 1<<20, src, dst, size); err != api.ErrShort {
				t.Errorf("%v, the size %d: %v", b, size, err)
			}
			if !bytes.Equal(dst[0].taken, src.data[:1<<20]) {
				t.Errorf("%v, the size %d: the first sink holds %d bytes", b, size, len(dst[0].taken))
			}
		}
	}
}

// As many data shards as there can be, and blocks at the limits.
func TestSplitAtTheLimits(t *testing.T) {
	long := setting{api.Long, 65535, 1}
	src, dst := plainSources([]byte{7, 8, 9})[0], openSinks(65535)
	if err := Split(made(t, api.Options{Family: api.Long, Backend: api.Fast, Data: long.k, Parity: 1, Workers: 1, Stripe: 1, Cache: 1}), 2, src, dst, 3); err != nil {
		t.Fatal(err)
	}
	for i, list := range held(dst) {
		want := []byte{0, 0}
		if i < 2 {
			want = [][]byte{{7, 8}, {9, 0}}[i]
		}
		if !bytes.Equal(list, want) {
			t.Fatalf("the sink %d holds %v", i, list)
		}
	}
	b, d := newBench(t, setting{api.Vander, 60, 4}), dice(6)
	data := d.bytes(60<<20 - 7)
	sinks := openSinks(60)
	if err := Split(b.tried[0], 1<<20, plainSources(data)[0], sinks, len(data)); err != nil {
		t.Fatal(err)
	}
	if !bytes.Equal(slices.Concat(held(sinks)...), append(data, make([]byte, 7)...)) {
		t.Error("other bytes, of the greatest block")
	}
}

// P8: the errors in their order, and nothing is read or written then.
func TestSplitRefuses(t *testing.T) {
	for _, s := range []setting{{api.Vander, 2, 1}, {api.Long, 1, 2}, {api.Cauchy, 40, 25}, {api.Long, 200, 48}} {
		e := s.engine(t)
		for _, block := range s.someBlocks() {
			for _, size := range []int{math.MinInt, -1, 0, 1, 3, 1 << 40, 1<<40 + 1, math.MaxInt} {
				for _, count := range []int{0, s.k - 1, s.k, s.k + 1, s.count()} {
					for _, nils := range []int{0, 1, 2, 3} {
						src, dst := newFeed(nil, api.ReadPlan{Chunks: []int{0, 1}, FailAt: -1}), openDrains(count)
						source, sinks, with := src.source, sinksOf(dst), e
						want := firstOf(
							question{api.ErrNil, nils == 1 || nils == 2 || nils == 3 && count > 0},
							question{api.ErrCount, count != s.k},
							question{api.ErrBlock, !s.takes(block)},
							question{api.ErrNoData, size < 1},
							question{api.ErrSize, size > 1<<40},
							question{api.ErrShort, true})
						switch nils {
						case 1:
							with = nil
						case 2:
							source = nil
						case 3:
							clear(sinks[count/2 : min(count, count/2+1)])
						}
						err := Split(with, block, source, sinks, size)
						if err != want {
							t.Fatalf("%v, Split, block %d, size %d, %d sinks, %d: %v, it is to be %v", s, block, size, count, nils, err, want)
						}
						settled(t, "refused", []*feed{src}, dst)
					}
				}
			}
		}
	}
}
