package fcode

import (
	"slices"
	"testing"

	"cullet/api"
)

// P18.5

// updated: what must stand behind UpdateSpan, in memory of its own: to each parity word the sum of the differences times their factors is added.
func (s setting) updated(shards, fresh [][]byte, span api.Span) [][]byte {
	left := copies(shards)
	for i, shard := range fresh {
		if len(shard) == 0 {
			continue
		}
		for j := range s.m {
			factor := s.factor(i, j)
			for t := span.From / 2; t < span.To/2; t++ {
				change := wordAt(shards[i], t) ^ wordAt(shard, t)
				setWord(left[s.k+j], t, wordAt(left[s.k+j], t)^long.mul(factor, change))
			}
		}
	}
	return left
}

// freshOf: fresh shards of these numbers, the others nil or empty.
func (d *dice) freshOf(s setting, numbers []int, length int) [][]byte {
	fresh := make([][]byte, s.k)
	for i := range fresh {
		if slices.Contains(numbers, i) {
			fresh[i] = d.bytes(length)
		} else if i%2 == 1 {
			fresh[i] = []byte{}
		}
	}
	return fresh
}

// checkUpdate: the span's bytes of the parity are what they must be, and nothing else is written, of the fresh shards too.
func checkUpdate(t *testing.T, s setting, shards, fresh [][]byte, span api.Span, run func(shards, fresh [][]byte) api.Errno) {
	t.Helper()
	about, beside := stage(shards), stage(fresh)
	e := run(about.shards, beside.shards)
	if e != api.OK || !alike(about.shards, s.updated(shards, fresh, span)) {
		t.Errorf("Update, %v, %v: %d, or other bytes", s, span, e)
	}
	if !about.kept(nil, s.parity()) || !beside.kept(nil, nil) {
		t.Errorf("Update, %v, %v: something beside the parity is changed", s, span)
	}
}

func TestUpdateExample(t *testing.T) {
	for _, c := range (setting{2, 2}).codecs(t) {
		shards := [][]byte{{1, 0}, {0, 0}, {0xCB, 0xAC}, {0xCA, 0xAC}}
		if e := c.Update(shards, [][]byte{{}, {1, 0}}); e != api.OK || !alike(shards, [][]byte{{1, 0}, {0, 0}, {1, 0}, {1, 0}}) {
			t.Errorf("Update: %d, %v", e, shards)
		}
		if ok, e := c.Verify([][]byte{{1, 0}, {1, 0}, {1, 0}, {1, 0}}); !ok || e != api.OK {
			t.Errorf("Verify of what Update made: %v, %d", ok, e)
		}
	}
}

// Every set of fresh shards, of codewords and of others.
func TestUpdateWithAnyFreshShards(t *testing.T) {
	d := dice(20)
	for _, s := range small() {
		for _, c := range s.codecs(t) {
			for _, numbers := range subsets(s.k) {
				for _, shards := range [][][]byte{d.codeword(s, 10), d.shards(s.k+s.m, 10)} {
					checkUpdate(t, s, shards, d.freshOf(s, numbers, 10), api.Span{To: 10}, c.Update)
				}
			}
		}
	}
}

func TestUpdateOfMiddlingCodes(t *testing.T) {
	d := dice(21)
	for _, s := range middling() {
		for _, c := range s.codecs(t) {
			for _, count := range []int{0, 1, 2, s.k / 2, s.k} {
				numbers := d.some(min(count, s.k), s.k)
				checkUpdate(t, s, d.shards(s.k+s.m, 8), d.freshOf(s, numbers, 8), api.Span{To: 8}, c.Update)
			}
			checkUpdate(t, s, d.shards(s.k+s.m, 8), d.freshOf(s, []int{s.k - 1}, 8), api.Span{To: 8}, c.Update)
		}
	}
}

// Great codes: a few fresh shards, the first and the last among them.
func TestUpdateOfGreatCodes(t *testing.T) {
	d := dice(22)
	for _, s := range great() {
		shards := d.shards(s.k+s.m, 2)
		fresh := d.freshOf(s, []int{0, d.next(s.k), s.k - 1}, 2)
		want := s.updated(shards, fresh, api.Span{To: 2})
		for _, c := range s.codecs(t) {
			again := copies(shards)
			if e := c.Update(again, fresh); e != api.OK || !alike(again, want) {
				t.Errorf("Update, %v: %d, or other bytes", s, e)
			}
		}
	}
}

// A codeword's parity becomes that of the fresh data.
func TestUpdateMakesACodeword(t *testing.T) {
	d := dice(23)
	for _, s := range append(small(), middling()...) {
		for _, c := range s.codecs(t) {
			old, young := d.codeword(s, 16), d.codeword(s, 16)
			if e := c.Update(old, young[:s.k]); e != api.OK || !alike(old[s.k:], young[s.k:]) {
				t.Errorf("Update, %v, all shards fresh: %d, or another parity", s, e)
			}
		}
	}
}

// Fresh shards that are the old ones change nothing; so do none.
func TestUpdateWithNothingNew(t *testing.T) {
	d := dice(24)
	for _, s := range append(small(), middling()...) {
		for _, c := range s.codecs(t) {
			shards := d.shards(s.k+s.m, 8)
			want := copies(shards)
			if e := c.Update(shards, copies(shards[:s.k])); e != api.OK || !alike(shards, want) {
				t.Errorf("Update, %v, with the old data: %d, or other bytes", s, e)
			}
			if e := c.Update(shards, make([][]byte, s.k)); e != api.OK || !alike(shards, want) {
				t.Errorf("Update, %v, with nothing fresh: %d, or other bytes", s, e)
			}
		}
	}
}

func TestUpdateSpanAtEverySpan(t *testing.T) {
	d := dice(25)
	for _, s := range append(small(), setting{10, 4}, setting{17, 9}) {
		for _, c := range s.codecs(t) {
			for _, n := range []int{2, 10, 18} {
				for _, span := range spansOf(n) {
					numbers := d.some(d.next(s.k+1), s.k)
					checkUpdate(t, s, d.shards(s.k+s.m, n), d.freshOf(s, numbers, n), span, func(shards, fresh [][]byte) api.Errno {
						return c.UpdateSpan(shards, fresh, span)
					})
				}
			}
		}
	}
}

// Long shards, by spans one behind another and by one call.
func TestUpdateLongShards(t *testing.T) {
	d := dice(26)
	s := setting{3, 3}
	const length = 270002
	for _, c := range s.codecs(t) {
		shards, fresh := d.shards(6, length), d.freshOf(s, []int{0, 2}, length)
		want := s.updated(shards, fresh, api.Span{To: length})
		parts := copies(shards)
		for from := 0; from < length; from += 17178 {
			c.UpdateSpan(parts, fresh, api.Span{From: from, To: min(from+17178, length)})
		}
		if e := c.Update(shards, fresh); e != api.OK || !alike(shards, want) || !alike(parts, want) {
			t.Errorf("Update, %v, long shards: %d, or other bytes", s, e)
		}
	}
}
