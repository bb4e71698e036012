package mcode

import (
	"slices"
	"testing"

	"cullet/api"
)

// P17.5

// way: one of the two calls that give back.
type way struct {
	name string
	run  func(c *Codec, shards [][]byte) api.Errno
	data bool // the data shards alone
}

func ways() []way {
	return []way{{"Reconstruct", (*Codec).Reconstruct, false}, {"ReconstructData", (*Codec).ReconstructData, true}}
}

// given: those of the missing ones that the call gives back.
func (w way) given(s setting, missing []int) []int {
	return slices.DeleteFunc(slices.Clone(missing), func(n int) bool { return w.data && n >= s.k })
}

// checkRestore: from the shards without the missing ones the call makes what it must, and writes nothing else: no byte of a present shard, no other entry, nothing behind an empty one.
func checkRestore(t *testing.T, w way, c *Codec, s setting, whole [][]byte, missing []int, want [][]byte) {
	t.Helper()
	about := stage(without(whole, missing))
	given := w.given(s, missing)
	e := w.run(c, about.shards)
	if e != api.OK || !about.kept(given, nil) {
		t.Fatalf("%s, %v, without %d: %d, or something else is changed", w.name, s, missing, e)
	}
	for _, i := range missing {
		right := []byte{}
		if slices.Contains(given, i) {
			right = want[i]
		}
		if !alike(about.shards[i:i+1], [][]byte{right}) {
			t.Fatalf("%s, %v, without %d: shard %d is %v, want %v", w.name, s, missing, i, about.shards[i], right)
		}
	}
	checkNewMemory(t, about, given)
}

// checkNewMemory: whatever is done to the given shards, their spare room too, no other shard and no old memory is changed by it.
func checkNewMemory(t *testing.T, about *scene, given []int) {
	t.Helper()
	was := copies(about.shards)
	for _, i := range given {
		all := about.shards[i][:cap(about.shards[i])]
		for at := range all {
			all[at] ^= 0xFF
		}
		for other, shard := range about.shards {
			if other != i && !alike([][]byte{shard}, was[other:other+1]) {
				t.Fatalf("the given shard %d shares memory with shard %d", i, other)
			}
		}
		for at := range all {
			all[at] ^= 0xFF
		}
	}
	if !about.kept(given, nil) {
		t.Fatal("a given shard shares memory with what was handed in")
	}
}

// Every loss of every small code: given back where k are left, else refused with nothing changed.
func TestRestoreEveryLoss(t *testing.T) {
	d := dice(30)
	for _, s := range small() {
		for _, c := range s.codecs(t) {
			for _, missing := range subsets(s.k + s.m) {
				whole := d.codeword(s, 10)
				for _, w := range ways() {
					if len(missing) <= s.m {
						checkRestore(t, w, c, s, whole, missing, whole)
						continue
					}
					want := api.ErrTooFew
					if len(missing) == s.k+s.m {
						want = api.ErrEmpty
					}
					about := stage(without(whole, missing))
					if e := w.run(c, about.shards); e != want || !about.kept(nil, nil) {
						t.Fatalf("%s, %v, without %d: %d, or something is changed", w.name, s, missing, e)
					}
				}
			}
		}
	}
}

func TestRestoreGreatCodes(t *testing.T) {
	d := dice(31)
	for _, s := range great() {
		whole := d.codeword(s, 9)
		for _, c := range s.codecs(t) {
			losses := [][]int{firstOf(min(s.k, s.m)), firstOf(s.k + s.m)[s.k:], {s.k + s.m - 1}, {0}}
			for range 4 {
				losses = append(losses, d.some(1+d.next(s.m), s.k+s.m))
			}
			losses = append(losses, d.some(s.m, s.k+s.m))
			for _, missing := range losses {
				for _, w := range ways() {
					checkRestore(t, w, c, s, whole, missing, whole)
				}
			}
		}
	}
}

// Where the present shards are of no codeword, the first k of them count.
func TestRestoreFromNoCodeword(t *testing.T) {
	d := dice(32)
	for _, s := range append(small(), both([][2]int{{10, 4}, {17, 9}, {1, 255}, {30, 60}})...) {
		for _, c := range s.codecs(t) {
			for count := 1; count <= min(s.m, 9); count++ {
				whole := d.shards(s.k+s.m, 8)
				missing := d.some(count, s.k+s.m)
				want := s.restored(without(whole, missing), missing)
				for _, w := range ways() {
					checkRestore(t, w, c, s, whole, missing, want)
				}
			}
		}
	}
}

// Where none is missing nothing changes, be it a codeword or not, and the cache isn't asked.
func TestRestoreWithNothingMissing(t *testing.T) {
	d := dice(33)
	for _, s := range append(small(), great()...) {
		c := s.codec(t, api.Table)
		c.Plan([]int{0})
		c.Plan([]int{1})
		was := c.cache.Recent()
		for _, w := range ways() {
			about := stage(d.shards(s.k+s.m, 5))
			if e := w.run(c, about.shards); e != api.OK || !about.kept(nil, nil) || !slices.EqualFunc(c.cache.Recent(), was, slices.Equal) {
				t.Errorf("%s, %v, whole: %d, or something is changed", w.name, s, e)
			}
		}
	}
}

// Long shards, at which a kernel works in more than one piece.
func TestRestoreLongShards(t *testing.T) {
	d := dice(34)
	for _, s := range both([][2]int{{4, 3}}) {
		whole := d.codeword(s, 20003)
		for _, c := range s.codecs(t) {
			for _, missing := range [][]int{{0}, {1, 3, 5}, {4, 5, 6}, {0, 6}} {
				for _, w := range ways() {
					checkRestore(t, w, c, s, whole, missing, whole)
				}
			}
		}
	}
}

// The chapter's third and fourth examples, one behind another on one codec.
func TestRestoreExamples(t *testing.T) {
	for _, c := range (setting{api.Vander, 2, 1}).codecs(t) {
		for i, x := range []struct {
			shards, want [][]byte
			e            api.Errno
			cached       int
		}{
			{[][]byte{{}, {7, 1}, {1, 2}}, [][]byte{{5, 0}, {7, 1}, {1, 2}}, api.OK, 1},
			{[][]byte{nil, {7, 1}, {1, 2}}, [][]byte{{5, 0}, {7, 1}, {1, 2}}, api.OK, 1},
			{[][]byte{{5, 0}, {}, {1, 2}}, [][]byte{{5, 0}, {7, 1}, {1, 2}}, api.OK, 2},
			{[][]byte{{5, 0}, {}, {}}, [][]byte{{5, 0}, {}, {}}, api.ErrTooFew, 2},
			{[][]byte{{}, {}, {}}, [][]byte{{}, {}, {}}, api.ErrEmpty, 2},
			{[][]byte{{5, 0}, {7, 1}}, [][]byte{{5, 0}, {7, 1}}, api.ErrCount, 2},
		} {
			if e := c.Reconstruct(x.shards); e != x.e || !alike(x.shards, x.want) || c.Cached() != x.cached {
				t.Errorf("Reconstruct, the example %d: %d, %v, Cached %d", i, e, x.shards, c.Cached())
			}
		}
	}
}

// ReconstructData asks for the plan of all missing shards, of the parity too, and of the parity alone.
func TestRestoreAsksForThePlanOfAll(t *testing.T) {
	d := dice(35)
	for _, s := range both([][2]int{{3, 3}}) {
		for _, w := range ways() {
			for _, missing := range subsets(6) {
				if len(missing) == 0 || len(missing) > 3 {
					continue
				}
				c := s.codec(t, api.Nibble)
				if e := w.run(c, without(d.codeword(s, 3), missing)); e != api.OK || !slices.EqualFunc(c.cache.Recent(), [][]int{missing}, slices.Equal) {
					t.Errorf("%s, %v, without %d: %d, the cache has %v", w.name, s, missing, e, c.cache.Recent())
				}
			}
		}
	}
}
