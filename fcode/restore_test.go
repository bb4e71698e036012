package fcode

import (
	"slices"
	"testing"

	"cullet/api"
)

// P18.4

// way: one of the two calls that give back.
type way struct {
	name string
	run  func(c *Codec, shards [][]byte) api.Errno
	data bool // the data shards alone
}

func ways() []way {
	return []way{{"Reconstruct", (*Codec).Reconstruct, false}, {"ReconstructData", (*Codec).ReconstructData, true}}
}

// given: those of the missing ones that the call gives back.
func (w way) given(s setting, missing []int) []int {
	return slices.DeleteFunc(slices.Clone(missing), func(n int) bool { return w.data && n >= s.k })
}

// checkRestore: from the shards without the missing ones the call makes what it must, and writes nothing else: no byte of a present shard, no other entry, nothing behind an empty one.
func checkRestore(t *testing.T, w way, c *Codec, s setting, whole [][]byte, missing []int, want [][]byte) {
	t.Helper()
	about := stage(without(whole, missing))
	given := w.given(s, missing)
	e := w.run(c, about.shards)
	if e != api.OK || !about.kept(given, nil) {
		t.Fatalf("%s, %v, without %d: %d, or something else is changed", w.name, s, missing, e)
	}
	for _, i := range missing {
		right := []byte{}
		if _, found := slices.BinarySearch(given, i); found {
			right = want[i]
		}
		if !alike(about.shards[i:i+1], [][]byte{right}) {
			t.Fatalf("%s, %v, without %d shards: shard %d is other than it must be", w.name, s, len(missing), i)
		}
	}
	if s.k+s.m < 1000 {
		checkNewMemory(t, about, given)
	}
}

// checkNewMemory: whatever is done to the given shards, their spare room too, no other shard and no old memory is changed by it.
func checkNewMemory(t *testing.T, about *scene, given []int) {
	t.Helper()
	was := copies(about.shards)
	for _, i := range given {
		all := about.shards[i][:cap(about.shards[i])]
		for at := range all {
			all[at] ^= 0xFF
		}
		for other, shard := range about.shards {
			if other != i && !alike([][]byte{shard}, was[other:other+1]) {
				t.Fatalf("the given shard %d shares memory with shard %d", i, other)
			}
		}
		for at := range all {
			all[at] ^= 0xFF
		}
	}
	if !about.kept(given, nil) {
		t.Fatal("a given shard shares memory with what was handed in")
	}
}

// Every loss of every small code: given back where k are left, else refused with nothing changed.
func TestRestoreEveryLoss(t *testing.T) {
	d := dice(30)
	for _, s := range small() {
		for _, c := range s.codecs(t) {
			for _, missing := range subsets(s.k + s.m) {
				whole := d.codeword(s, 10)
				for _, w := range ways() {
					if len(missing) <= s.m {
						checkRestore(t, w, c, s, whole, missing, whole)
						continue
					}
					want := api.ErrTooFew
					if len(missing) == s.k+s.m {
						want = api.ErrEmpty
					}
					about := stage(without(whole, missing))
					if e := w.run(c, about.shards); e != want || !about.kept(nil, nil) {
						t.Fatalf("%s, %v, without %d: %d, or something is changed", w.name, s, missing, e)
					}
				}
			}
		}
	}
}

// losses: of the first and of the last shards, of all parity, of one, and any.
func (d *dice) losses(s setting) [][]int {
	n := s.k + s.m
	lists := [][]int{firstOf(min(s.k, s.m)), firstOf(s.m), s.parity(), {n - 1}, {0}, {s.k - 1}, {s.k}, between(n-s.m, n)}
	for range 4 {
		lists = append(lists, d.some(1+d.next(s.m), n))
	}
	return append(lists, d.some(s.m, n))
}

func TestRestoreMiddlingCodes(t *testing.T) {
	d := dice(31)
	for _, s := range middling() {
		whole := d.codeword(s, 8)
		for _, c := range s.codecs(t) {
			for _, missing := range d.losses(s) {
				for _, w := range ways() {
					checkRestore(t, w, c, s, whole, missing, whole)
				}
			}
		}
	}
}

// Great codes: Fast gives all back that can be lost, Direct as many as take no long time.
func TestRestoreGreatCodes(t *testing.T) {
	d := dice(32)
	for i, s := range great() {
		whole := d.shards(s.k+s.m, 2)
		fast, direct := s.codec(t, api.Fast), s.codec(t, api.Direct)
		fast.Encode(whole)
		w := ways()[i%2]
		for _, missing := range [][]int{d.some(s.m, s.k+s.m), firstOf(s.m), {s.k - 1}} {
			checkRestore(t, w, fast, s, whole, missing, whole)
		}
		for _, missing := range [][]int{d.some(min(s.m, 5), s.k+s.m), []int{0, s.k}[:min(s.m, 2)]} {
			checkRestore(t, w, direct, s, whole, missing, whole)
		}
	}
}

// Where the present shards are of no codeword, it is what the sum says; the parity that ReconstructData doesn't give back counts as missing there too.
func TestRestoreFromNoCodeword(t *testing.T) {
	d := dice(33)
	for _, s := range append(small(), middling()...) {
		for _, c := range s.codecs(t) {
			for count := 1; count <= min(s.m, 9); count++ {
				whole := d.shards(s.k+s.m, 6)
				missing := d.some(count, s.k+s.m)
				want := s.refilled(s.locator(missing), missing, whole, api.Span{To: 6})
				for _, w := range ways() {
					checkRestore(t, w, c, s, whole, missing, want)
				}
			}
		}
	}
}

// Every loss of some small codes, of sets that are no codeword.
func TestRestoreEveryLossFromNoCodeword(t *testing.T) {
	d := dice(34)
	for _, s := range []setting{{1, 1}, {2, 1}, {1, 3}, {3, 2}, {2, 3}, {4, 3}, {3, 4}} {
		for _, c := range s.codecs(t) {
			for _, missing := range subsets(s.k + s.m) {
				if len(missing) > s.m {
					continue
				}
				whole := d.shards(s.k+s.m, 4)
				want := s.refilled(s.locator(missing), missing, whole, api.Span{To: 4})
				for _, w := range ways() {
					checkRestore(t, w, c, s, whole, missing, want)
				}
			}
		}
	}
}

// Where none is missing nothing changes, be it a codeword or not.
func TestRestoreWithNothingMissing(t *testing.T) {
	d := dice(35)
	for _, s := range append(small(), middling()...) {
		for _, c := range s.codecs(t) {
			for _, w := range ways() {
				about := stage(d.shards(s.k+s.m, 4))
				if e := w.run(c, about.shards); e != api.OK || !about.kept(nil, nil) {
					t.Errorf("%s, %v, whole: %d, or something is changed", w.name, s, e)
				}
			}
		}
	}
}

// Long shards, at which Fast works in more than one piece.
func TestRestoreLongShards(t *testing.T) {
	d := dice(36)
	for _, x := range []struct {
		s        setting
		length   int
		missings [][]int
	}{
		{setting{3, 3}, 140002, [][]int{{0}, {1, 3, 5}, {3, 4, 5}, {0, 5}}},
		{setting{40, 80}, 2100, [][]int{d.some(20, 120), {0, 119}}},
	} {
		whole := x.s.encoded(d.shards(x.s.k+x.s.m, x.length), api.Span{To: x.length})
		for _, c := range x.s.codecs(t) {
			for _, missing := range x.missings {
				for _, w := range ways() {
					checkRestore(t, w, c, x.s, whole, missing, whole)
				}
			}
		}
	}
}

// The document's fifth example, and others of its kind.
func TestRestoreExamples(t *testing.T) {
	for _, c := range (setting{2, 1}).codecs(t) {
		for i, x := range []struct {
			shards, want [][]byte
			e            api.Errno
		}{
			{[][]byte{{}, {2, 1}, {3, 1}}, [][]byte{{1, 0}, {2, 1}, {3, 1}}, api.OK},
			{[][]byte{{1, 0}, nil, {3, 1}}, [][]byte{{1, 0}, {2, 1}, {3, 1}}, api.OK},
			{[][]byte{{1, 0}, {2, 1}, {}}, [][]byte{{1, 0}, {2, 1}, {3, 1}}, api.OK},
			{[][]byte{{}, {}, {1, 2, 3}}, [][]byte{{}, {}, {1, 2, 3}}, api.ErrOdd},
			{[][]byte{{}, {}, {1, 2}}, [][]byte{{}, {}, {1, 2}}, api.ErrTooFew},
			{[][]byte{{}, {}, {}}, [][]byte{{}, {}, {}}, api.ErrEmpty},
			{[][]byte{{5, 0}, {7, 1}}, [][]byte{{5, 0}, {7, 1}}, api.ErrCount},
		} {
			for _, w := range ways() {
				if w.data && len(x.shards[len(x.shards)-1]) == 0 {
					continue
				}
				shards := copies(x.shards)
				if e := w.run(c, shards); e != x.e || !alike(shards, x.want) {
					t.Errorf("%s, the example %d: %d, %v", w.name, i, e, shards)
				}
			}
		}
	}
}
