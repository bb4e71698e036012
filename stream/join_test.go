package stream

import (
	"bytes"
	"fmt"
	"math"
	"slices"
	"testing"

	"cullet/api"
)

// P24.2

func TestJoinExamples(t *testing.T) {
	e := setting{api.Vander, 2, 1}.engine(t)
	for _, c := range []struct {
		size  int
		err   error
		holds []byte
		taken []int
	}{
		{5, nil, []byte{1, 2, 3, 4, 5}, []int{3, 2}},
		{7, api.ErrShort, []byte{1, 2, 3, 4, 5, 0}, []int{3, 3}},
		{6, nil, []byte{1, 2, 3, 4, 5, 0}, []int{3, 3}},
		{2, nil, []byte{1, 2}, []int{2, 0}},
		{3, nil, []byte{1, 2, 3}, []int{3, 0}},
		{1, nil, []byte{1}, []int{1, 0}},
		{math.MaxInt, api.ErrShort, []byte{1, 2, 3, 4, 5, 0}, []int{3, 3}},
	} {
		for block := 1; block < 9; block++ {
			dst, shards := openSinks(1)[0], plainSources([]byte{1, 2, 3}, []byte{4, 5, 0})
			err := Join(e, block, dst, shards, c.size)
			if err != c.err || !bytes.Equal(dst.Bytes(), c.holds) || shards[0].Taken() != c.taken[0] || shards[1].Taken() != c.taken[1] {
				t.Errorf("Join, block %d, size %d: %v, %v, of %d and %d", block, c.size, err, dst.Bytes(), shards[0].Taken(), shards[1].Taken())
			}
		}
	}
}

// P24.7: of shards of any lengths, empty ones too, the first size bytes of them, one behind the other.
func TestJoinOfAllShortShards(t *testing.T) {
	d := dice(11)
	for _, b := range benches(t, each([][2]int{{1, 2}, {2, 1}, {3, 2}}, api.Vander, api.Long)) {
		countLists(b.k, 5, func(lengths []int) {
			var shards [][]byte
			for _, n := range lengths {
				shards = append(shards, d.bytes(n))
			}
			all := slices.Concat(shards...)
			for size := 1; size <= len(all)+2; size++ {
				block := b.width() * (1 + d.next(5))
				dst, feeds := openDrains(1)[0], d.feeds(shards)
				what := fmt.Sprintf("%v, Join of the lengths %v, block %d, size %d", b, lengths, block, size)
				err := b.tryJoin(t, what, b.tried[0], block, dst, feeds, size)
				if size <= len(all) && err != nil || size > len(all) && err != api.ErrShort || !bytes.Equal(dst.taken, all[:min(size, len(all))]) {
					t.Fatalf("%s: %v, %v", what, err, dst.taken)
				}
			}
		})
	}
}

// P6 and P24.7: as the engine's Join of whole shards.
func TestJoinAsInMemory(t *testing.T) {
	d := dice(12)
	for _, b := range benches(t, append(small(), middling()...)) {
		for _, length := range []int{2, 6, 16} {
			shards := d.shards(b.k, length)
			for _, size := range []int{1, length, length + 1, b.k*length - 1, b.k * length} {
				size = min(size, b.k*length)
				want, _ := b.memory.Join(shards, size)
				for _, block := range []int{2, 4, 6, 50} {
					dst := openDrains(1)[0]
					what := fmt.Sprintf("%v, Join of %d bytes each, block %d, size %d", b, length, block, size)
					if err := b.tryJoin(t, what, b.tried[0], block, dst, d.feeds(shards), size); err != nil || !bytes.Equal(dst.taken, want) {
						t.Fatalf("%s: %v, or other bytes than the engine's", what, err)
					}
				}
			}
		}
	}
}

// Every place at which a source or the sink can break. What a reading gave that ended with a failure is not written.
func TestJoinBrokenAnywhere(t *testing.T) {
	d := dice(13)
	for _, b := range benches(t, each([][2]int{{1, 1}, {3, 1}}, api.Vander, api.Long)) {
		shards := d.shards(b.k, 6)
		for size := 1; size <= 6*b.k; size += 1 + d.next(3) {
			for block := b.width(); block <= 8; block += b.width() {
				what := fmt.Sprintf("%v, Join, block %d, size %d", b, block, size)
				for at := range 8 {
					for i := range b.k {
						feeds := d.feeds(shards)
						feeds[i] = newFeed(shards[i], api.ReadPlan{Chunks: d.chunks(), FailAt: at, Code: at})
						dst := openDrains(1)[0]
						err := b.tryJoin(t, what, b.tried[0], block, dst, feeds, size)
						if breaks := 6*i+at < size && at < 6; breaks && (err != feeds[i].source.Failure() || len(dst.taken) != 6*i+at-at%block) {
							t.Fatalf("%s: the source %d breaks at %d: %v, %d bytes are written", what, i, at, err, len(dst.taken))
						}
					}
				}
				for at := range size + 2 {
					dst := newDrain(api.WritePlan{FailAt: at, Code: at})
					err := b.tryJoin(t, what, b.tried[0], block, dst, d.feeds(shards), size)
					if at < size && (err != dst.sink.Failure() || len(dst.taken) != at) || at >= size && err != nil {
						t.Fatalf("%s: the sink breaks at %d: %v", what, at, err)
					}
				}
			}
		}
	}
}

func TestJoinThrown(t *testing.T) {
	d := dice(14)
	for _, b := range benches(t, append(small(), middling()[:6]...)) {
		for range 300 {
			length := d.next(14)
			block := b.width() * (1 + d.next(9))
			size := 1 + d.next(b.k*length+3)
			dst, feeds := d.drains(1, size)[0], d.brittles(d.shards(b.k, length))
			what := fmt.Sprintf("%v, Join of %d bytes each, block %d, size %d", b, length, block, size)
			b.tryJoin(t, what, b.tried[d.next(len(b.tried))], block, dst, feeds, size)
		}
	}
}

// P8
func TestJoinRefuses(t *testing.T) {
	for _, s := range []setting{{api.Vander, 2, 1}, {api.Long, 1, 2}, {api.Cauchy, 40, 25}, {api.Long, 200, 48}} {
		e := s.engine(t)
		for _, block := range s.someBlocks() {
			for _, size := range []int{math.MinInt, -1, 0, 1, 1<<40 + 1, math.MaxInt} {
				for _, count := range []int{0, s.k - 1, s.k, s.k + 1, s.count()} {
					for _, nils := range []int{0, 1, 2, 3} {
						dst, feeds := openDrains(1)[0], emptyFeeds(count)
						sink, sources, with := dst.sink, sourcesOf(feeds), e
						want := firstOf(
							question{api.ErrNil, nils == 1 || nils == 2 || nils == 3 && count > 0},
							question{api.ErrCount, count != s.k},
							question{api.ErrBlock, !s.takes(block)},
							question{api.ErrJoin, size < 1},
							question{api.ErrShort, true})
						switch nils {
						case 1:
							with = nil
						case 2:
							sink = nil
						case 3:
							clear(sources[count/2 : min(count, count/2+1)])
						}
						if err := Join(with, block, sink, sources, size); err != want {
							t.Fatalf("%v, Join, block %d, size %d, %d sources, %d: %v, it is to be %v", s, block, size, count, nils, err, want)
						}
					}
				}
			}
		}
	}
}
