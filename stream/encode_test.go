package stream

import (
	"fmt"
	"testing"

	"cullet/api"
)

// P24.4

func TestEncodeExamples(t *testing.T) {
	for _, c := range []struct {
		s            setting
		block        int
		data, parity [][]byte
		err          error
	}{
		{setting{api.Vander, 2, 2}, 1, [][]byte{{1}, {0}}, [][]byte{{3}, {2}}, nil},
		{setting{api.Cauchy, 2, 1}, 4, [][]byte{{1}, {0}}, [][]byte{{0x8E}}, nil},
		{setting{api.Long, 2, 1}, 2, [][]byte{{1, 2}, {3, 4}}, [][]byte{{2, 6}}, nil},
		{setting{api.Vander, 2, 1}, 1, [][]byte{{5, 0}, {7, 1}}, [][]byte{{1, 2}}, nil},
		{setting{api.Vander, 2, 1}, 2, [][]byte{nil, nil}, [][]byte{nil}, api.ErrEmpty},
		{setting{api.Vander, 2, 1}, 2, [][]byte{{5, 0}, {7, 1, 3}}, [][]byte{{1, 2}}, api.ErrUneven},
		{setting{api.Vander, 2, 1}, 3, [][]byte{{5, 0}, {7, 1, 3}}, [][]byte{nil}, api.ErrUneven},
		{setting{api.Long, 2, 1}, 2, [][]byte{{1, 2, 3}, {3, 4, 5}}, [][]byte{{2, 6}}, api.ErrOdd},
		{setting{api.Long, 2, 1}, 4, [][]byte{{1, 2, 3}, {3, 4, 5}}, [][]byte{nil}, api.ErrOdd},
		{setting{api.Long, 2, 1}, 4, [][]byte{{1}, {3, 4, 5}}, [][]byte{nil}, api.ErrUneven},
	} {
		for _, e := range c.s.engines(t) {
			parity := openSinks(c.s.m)
			if err := Encode(e, c.block, plainSources(c.data...), parity); err != c.err || !alike(held(parity), c.parity) {
				t.Errorf("%v, Encode of %v, block %d: %v, %v", c.s, c.data, c.block, err, held(parity))
			}
		}
	}
}

// P24.7 and P6: whatever the chunks and the block, the sinks hold what the engine's Encode gives.
func TestEncodeAsInMemory(t *testing.T) {
	d := dice(31)
	for _, b := range benches(t, append(small(), middling()...)) {
		for _, words := range []int{1, 2, 5, 8, 31} {
			length := words * b.width()
			data := d.shards(b.k, length)
			want := b.encoded(data)[b.k:]
			for _, e := range b.tried {
				for _, block := range []int{1, 2, 5, 8, 40} {
					block *= b.width()
					parity := openDrains(b.m)
					what := fmt.Sprintf("%v, Encode of %d bytes each, block %d", b, length, block)
					if err := b.tryEncode(t, what, e, block, d.feeds(data), parity); err != nil || !alike(held(sinksOf(parity)), want) {
						t.Fatalf("%s: %v, or other shards than the engine's", what, err)
					}
				}
			}
		}
	}
}

// Every place at which a sink can break: the shards ahead of it have this round's bytes, those behind it don't.
func TestEncodeBrokenSinks(t *testing.T) {
	d := dice(32)
	for _, b := range benches(t, each([][2]int{{2, 3}, {3, 1}}, api.Vander, api.Cauchy, api.Long)) {
		data := d.shards(b.k, 8)
		for _, block := range []int{2, 4, 6, 8, 10} {
			for at := range 10 {
				for j := range b.m {
					parity := openDrains(b.m)
					parity[j] = newDrain(api.WritePlan{FailAt: at, Code: at})
					what := fmt.Sprintf("%v, Encode, block %d, the sink %d breaks at %d", b, block, j, at)
					err := b.tryEncode(t, what, b.tried[0], block, d.feeds(data), parity)
					if at >= 8 {
						if err != nil {
							t.Fatalf("%s: %v", what, err)
						}
						continue
					}
					for i, p := range parity {
						want := at / block * block
						if i < j {
							want = min(8, want+block)
						}
						if i == j {
							want = at
						}
						if err != parity[j].sink.Failure() || len(p.taken) != want {
							t.Fatalf("%s: %v, the sink %d holds %d bytes", what, err, i, len(p.taken))
						}
					}
				}
			}
		}
	}
}

func TestEncodeThrown(t *testing.T) {
	d := dice(33)
	for _, b := range benches(t, append(small(), middling()[:6]...)) {
		for range 300 {
			length, block := b.width()*d.next(10), b.width()*(1+d.next(6))
			data, parity := d.brittles(d.shards(b.k, length)), d.drains(b.m, length)
			what := fmt.Sprintf("%v, Encode of %d bytes each, block %d", b, length, block)
			b.tryEncode(t, what, b.tried[d.next(len(b.tried))], block, data, parity)
		}
	}
}

// P8
func TestEncodeRefuses(t *testing.T) {
	for _, s := range []setting{{api.Vander, 2, 1}, {api.Long, 1, 2}, {api.Cauchy, 40, 25}, {api.Long, 100, 3}} {
		e := s.engine(t)
		for _, block := range s.someBlocks() {
			for _, dataCount := range []int{0, s.k - 1, s.k, s.k + 1, s.m, s.count()} {
				for _, parityCount := range []int{0, s.m - 1, s.m, s.m + 1, s.k, s.count()} {
					for _, nils := range []int{0, 1, 2, 3} {
						data, parity := emptyFeeds(dataCount), openDrains(parityCount)
						sources, sinks, with := sourcesOf(data), sinksOf(parity), e
						want := firstOf(
							question{api.ErrNil, nils == 1 || nils == 2 && dataCount > 0 || nils == 3 && parityCount > 0},
							question{api.ErrCount, dataCount != s.k || parityCount != s.m},
							question{api.ErrBlock, !s.takes(block)},
							question{api.ErrEmpty, true})
						switch nils {
						case 1:
							with = nil
						case 2:
							clear(sources[dataCount/2 : min(dataCount, dataCount/2+1)])
						case 3:
							clear(sinks[parityCount/2 : min(parityCount, parityCount/2+1)])
						}
						if err := Encode(with, block, sources, sinks); err != want {
							t.Fatalf("%v, Encode, block %d, %d sources, %d sinks, %d: %v, it is to be %v", s, block, dataCount, parityCount, nils, err, want)
						}
					}
				}
			}
		}
	}
}
