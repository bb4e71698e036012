package stream

import (
	"fmt"
	"testing"

	"cullet/api"
)

// P24.5

func TestVerifyExamples(t *testing.T) {
	e := setting{api.Vander, 2, 1}.engine(t)
	for _, c := range []struct {
		shards [][]byte
		block  int
		good   bool
		err    error
		taken  int
	}{
		{[][]byte{{5, 0}, {7, 1}, {1, 2}}, 1, true, nil, 2},
		{[][]byte{{5, 0}, {7, 1}, {1, 2}}, 9, true, nil, 2},
		{[][]byte{{5, 0}, {7, 1}, {0, 2}}, 1, false, nil, 1},
		{[][]byte{{5, 0}, {7, 1}, {0, 2}}, 9, false, nil, 2},
		{[][]byte{{5, 0}, {7, 1}, {1, 3}}, 1, false, nil, 2},
		{[][]byte{{5, 0}, {7, 1}, {1}}, 1, false, api.ErrUneven, 2},
		{[][]byte{{5, 0}, {7, 1}, {0}}, 1, false, nil, 1},
		{[][]byte{nil, nil, nil}, 1, false, api.ErrEmpty, 0},
	} {
		sources := plainSources(c.shards...)
		good, err := Verify(e, c.block, sources)
		if good != c.good || err != c.err || sources[0].Taken() != c.taken {
			t.Errorf("Verify of %v, block %d: %v, %v, %d bytes were read", c.shards, c.block, good, err, sources[0].Taken())
		}
	}
}

// P24.7: true of every codeword, and false of one with a byte turned, whichever; no byte is read behind the round that shows it.
func TestVerifyTurnedBytes(t *testing.T) {
	d := dice(41)
	for _, b := range benches(t, append(small(), middling()[:6]...)) {
		for _, length := range []int{2, 6, 8} {
			whole := b.encoded(d.shards(b.k, length))
			for _, block := range []int{2, 4, 8, 10} {
				what := fmt.Sprintf("%v, Verify of %d bytes each, block %d", b, length, block)
				for _, e := range b.tried {
					if good, err := b.tryVerify(t, what, e, block, d.feeds(whole)); !good || err != nil {
						t.Fatalf("%s: %v, %v", what, good, err)
					}
				}
				for i := range b.count() {
					at := d.next(length)
					shards := copies(whole)
					shards[i][at] ^= byte(1 + d.next(255))
					feeds := d.feeds(shards)
					good, err := b.tryVerify(t, what, b.tried[0], block, feeds)
					if good || err != nil {
						t.Fatalf("%s, byte %d of shard %d turned: %v, %v", what, at, i, good, err)
					}
					for _, f := range feeds {
						if f.given != min(length, at/block*block+block) {
							t.Fatalf("%s, byte %d turned: %d bytes were read", what, at, f.given)
						}
					}
				}
			}
		}
	}
}

// Once it is told that a round is no codeword, what would come behind isn't seen: neither a break nor another length.
func TestVerifyStopsAtOnce(t *testing.T) {
	b := newBench(t, setting{api.Vander, 2, 1})
	for _, behind := range [][]byte{nil, {1}, {1, 2, 3, 4}} {
		list := []*feed{newFeed([]byte{5, 7}, api.ReadPlan{FailAt: 1}), newFeed([]byte{7}, api.ReadPlan{FailAt: -1}), newFeed(append([]byte{9}, behind...), api.ReadPlan{FailAt: -1})}
		if good, err := b.tryVerify(t, "a wrong first round", b.tried[0], 1, list); good || err != nil {
			t.Errorf("%v behind a wrong first round: %v, %v", behind, good, err)
		}
	}
}

func TestVerifyThrown(t *testing.T) {
	d := dice(42)
	for _, b := range benches(t, append(small(), middling()[:6]...)) {
		for range 300 {
			length, block := b.width()*d.next(10), b.width()*(1+d.next(6))
			shards := d.shards(b.count(), length)
			if length > 0 && d.next(4) > 0 {
				shards = b.encoded(shards[:b.k])
				if d.next(3) == 0 {
					shards[d.next(b.count())][d.next(length)] ^= 1
				}
			}
			what := fmt.Sprintf("%v, Verify of %d bytes each, block %d", b, length, block)
			b.tryVerify(t, what, b.tried[d.next(len(b.tried))], block, d.brittles(shards))
		}
	}
}

// P8
func TestVerifyRefuses(t *testing.T) {
	for _, s := range []setting{{api.Vander, 2, 1}, {api.Long, 1, 2}, {api.Cauchy, 40, 25}, {api.Long, 100, 3}} {
		e := s.engine(t)
		for _, block := range s.someBlocks() {
			for _, count := range []int{0, s.k, s.count() - 1, s.count(), s.count() + 1} {
				for _, nils := range []int{0, 1, 2} {
					sources, with := sourcesOf(emptyFeeds(count)), e
					want := firstOf(
						question{api.ErrNil, nils == 1 || nils == 2 && count > 0},
						question{api.ErrCount, count != s.count()},
						question{api.ErrBlock, !s.takes(block)},
						question{api.ErrEmpty, true})
					switch nils {
					case 1:
						with = nil
					case 2:
						clear(sources[count/2 : min(count, count/2+1)])
					}
					if good, err := Verify(with, block, sources); good || err != want {
						t.Fatalf("%v, Verify, block %d, %d sources, %d: %v, %v, it is to be %v", s, block, count, nils, good, err, want)
					}
				}
			}
		}
	}
}
