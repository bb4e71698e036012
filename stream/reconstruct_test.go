package stream

import (
	"fmt"
	"testing"

	"cullet/api"
	"cullet/pipes"
)

// P24.6

func TestReconstructExamples(t *testing.T) {
	e := setting{api.Vander, 2, 1}.engine(t)
	whole := [][]byte{{5, 0}, {7, 1}, {1, 2}}
	for block := 1; block < 5; block++ {
		for i := range whole {
			there, wanted := plainSources(whole...), make([]*pipes.Sink, 3)
			there[i], wanted[i] = nil, openSinks(1)[0]
			if err := Reconstruct(e, block, there, wanted); err != nil || !alike(held(wanted[i:i+1]), whole[i:i+1]) {
				t.Errorf("the shard %d: %v, %v", i, err, held(wanted))
			}
			// It is missing, and nobody wants it.
			there[i], wanted[i] = nil, nil
			if err := Reconstruct(e, block, there, wanted); err != api.ErrEmpty {
				t.Errorf("of sources that have ended: %v", err)
			}
		}
	}
}

// choices: every way in which each shard has a source, a sink, or neither, as long as enough have a source. With is told by 's', 'w' and '-'.
func (s setting) choices(with func(ways []byte)) {
	countLists(s.count(), 3, func(list []int) {
		ways, sources := make([]byte, s.count()), 0
		for i, n := range list {
			ways[i] = "sw-"[n]
			if n == 0 {
				sources++
			}
		}
		if sources >= s.k {
			with(ways)
		}
	})
}

// staged: the feeds and drains of these ways.
func staged(ways []byte, source func(i int) *feed, drains []*drain) (there []*feed, wanted []*drain) {
	there, wanted = make([]*feed, len(ways)), make([]*drain, len(ways))
	for i, way := range ways {
		switch way {
		case 's':
			there[i] = source(i)
		case 'w':
			wanted[i] = drains[i]
		}
	}
	return there, wanted
}

// P24.7 and P6: of every loss, the shards that are wanted are what the engine's Reconstruct gives back; of shards that are of no codeword too.
func TestReconstructOfEveryLoss(t *testing.T) {
	d := dice(51)
	for _, b := range benches(t, small()) {
		whole := b.encoded(d.shards(b.k, 10))
		noCodeword := d.shards(b.count(), 10)
		b.choices(func(ways []byte) {
			for _, shards := range [][][]byte{whole, noCodeword} {
				block := 2 * (1 + d.next(6))
				there, wanted := staged(ways, func(i int) *feed { return d.feed(shards[i]) }, openDrains(b.count()))
				what := fmt.Sprintf("%v, Reconstruct of %s, block %d", b, ways, block)
				if err := b.tryReconstruct(t, what, b.tried[d.next(len(b.tried))], block, there, wanted); err != nil {
					t.Fatalf("%s: %v", what, err)
				}
				lost := make([][]byte, b.count())
				for i, f := range there {
					if f != nil {
						lost[i] = shards[i]
						if f.given != 10 {
							t.Fatalf("%s: %d bytes of the source %d were read", what, f.given, i)
						}
					}
				}
				for i, want := range b.restored(lost) {
					if wanted[i] != nil && !alike([][]byte{wanted[i].sink.Bytes()}, [][]byte{want}) {
						t.Fatalf("%s: the sink %d holds %v, it is to be %v", what, i, wanted[i].sink.Bytes(), want)
					}
				}
			}
		})
	}
}

func TestReconstructOfMoreShards(t *testing.T) {
	d := dice(52)
	for _, b := range benches(t, middling()) {
		whole := b.encoded(d.shards(b.k, 14))
		for range 12 {
			ways, lost := make([]byte, b.count()), 0
			for i := range ways {
				ways[i] = 's'
				if lost < b.m && d.next(b.count()-i) < b.m-lost+d.next(3)-1 {
					ways[i] = "w-"[d.next(2)]
					lost++
				}
			}
			there, wanted := staged(ways, func(i int) *feed { return d.feed(whole[i]) }, openDrains(b.count()))
			block := 2 * (1 + d.next(9))
			what := fmt.Sprintf("%v, Reconstruct of %s, block %d", b, ways, block)
			if err := b.tryReconstruct(t, what, b.tried[d.next(len(b.tried))], block, there, wanted); err != nil {
				t.Fatalf("%s: %v", what, err)
			}
			for i, w := range wanted {
				if w != nil && !alike([][]byte{w.taken}, whole[i:i+1]) {
					t.Fatalf("%s: the sink %d holds other bytes", what, i)
				}
			}
		}
	}
}

// Without a sink the rounds are gone through all the same: sources are read, and what is wrong with them is told.
func TestReconstructForNobody(t *testing.T) {
	for _, b := range benches(t, []setting{{api.Vander, 2, 1}, {api.Long, 2, 2}}) {
		for _, c := range []struct {
			lengths []int
			err     error
		}{{[]int{4, 4}, nil}, {[]int{0, 0}, api.ErrEmpty}, {[]int{4, 6}, api.ErrUneven}, {[]int{4, 0}, api.ErrUneven}, {[]int{12, 12}, nil}} {
			ways := append([]byte("ss"), "--"[:b.m]...)
			there, wanted := staged(ways, func(i int) *feed { return newFeed(make([]byte, c.lengths[i]), api.ReadPlan{FailAt: -1}) }, nil)
			if err := b.tryReconstruct(t, "for nobody", b.tried[0], 4, there, wanted); err != c.err {
				t.Errorf("%v, the lengths %v: %v, it is to be %v", b, c.lengths, err, c.err)
			}
		}
		ways := append([]byte("ss"), "ss"[:b.m]...)
		there, wanted := staged(ways, func(i int) *feed { return newFeed(make([]byte, 8), api.ReadPlan{FailAt: -1}) }, nil)
		if err := b.tryReconstruct(t, "nothing is missing", b.tried[0], 4, there, wanted); err != nil || there[0].given != 8 {
			t.Errorf("%v, nothing is missing: %v, %d bytes were read", b, err, there[0].given)
		}
	}
}

func TestReconstructThrown(t *testing.T) {
	d := dice(53)
	for _, b := range benches(t, append(small(), middling()[:6]...)) {
		for range 300 {
			length, block := b.width()*d.next(10), b.width()*(1+d.next(6))
			shards := d.shards(b.count(), length)
			ways, lost := make([]byte, b.count()), 0
			for i := range ways {
				ways[i] = 's'
				if lost < b.m && d.next(3) == 0 {
					ways[i] = "w-"[d.next(2)]
					lost++
				}
			}
			there, wanted := staged(ways, func(i int) *feed { return d.brittle(shards[i]) }, d.drains(b.count(), length))
			what := fmt.Sprintf("%v, Reconstruct of %s, %d bytes each, block %d", b, ways, length, block)
			b.tryReconstruct(t, what, b.tried[d.next(len(b.tried))], block, there, wanted)
		}
	}
}

// P8: every list of four kinds of entries, with lists that are too short or too long, and all blocks. A shard that has both a source and a sink is told ahead of too few sources.
func TestReconstructRefuses(t *testing.T) {
	for _, s := range []setting{{api.Vander, 2, 1}, {api.Long, 1, 2}, {api.Cauchy, 2, 2}} {
		e := s.engine(t)
		for n := range s.count() + 2 {
			countLists(n, 4, func(list []int) {
				there, wanted := make([]*pipes.Source, n), make([]*pipes.Sink, n)
				both, present := false, 0
				for i, kind := range list {
					if kind&1 == 1 {
						there[i] = plainSources(nil)[0]
						present++
					}
					if kind&2 == 2 {
						wanted[i] = openSinks(1)[0]
					}
					both = both || kind == 3
				}
				for _, block := range []int{-1, 0, 1, 2, 1 << 20, 1<<20 + 2} {
					want := firstOf(
						question{api.ErrCount, n != s.count()},
						question{api.ErrBlock, !s.takes(block)},
						question{api.ErrBoth, both},
						question{api.ErrTooFew, present < s.k},
						question{api.ErrEmpty, true})
					if block == 1<<20 && want == api.ErrEmpty {
						continue // great memory for nothing
					}
					if err := Reconstruct(e, block, there, wanted); err != want {
						t.Fatalf("%v, Reconstruct of %v, block %d: %v, it is to be %v", s, list, block, err, want)
					}
					if err := Reconstruct(nil, block, there, wanted); err != api.ErrNil {
						t.Fatalf("%v, no engine: %v", s, err)
					}
				}
			})
		}
	}
}

// The two lists are counted each by itself, and all blocks are looked at.
func TestReconstructRefusesListsAndBlocks(t *testing.T) {
	for _, s := range []setting{{api.Vander, 2, 1}, {api.Cauchy, 40, 25}, {api.Long, 100, 3}} {
		e := s.engine(t)
		counts := []int{0, s.k, s.count() - 1, s.count(), s.count() + 1}
		for _, block := range s.someBlocks() {
			for _, a := range counts {
				for _, b := range counts {
					want := firstOf(
						question{api.ErrCount, a != s.count() || b != s.count()},
						question{api.ErrBlock, !s.takes(block)},
						question{api.ErrTooFew, true})
					if err := Reconstruct(e, block, make([]*pipes.Source, a), openSinks(b)); err != want {
						t.Fatalf("%v, Reconstruct, block %d, %d sources, %d sinks: %v, it is to be %v", s, block, a, b, err, want)
					}
				}
			}
		}
	}
}
