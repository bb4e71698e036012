package mcode

import (
	"slices"
	"testing"

	"cullet/api"
)

// P17.6

// updated: what must stand behind UpdateSpan, in memory of its own: the parity, plus the old data's codeword there, plus the fresh data's.
func (s setting) updated(shards, fresh [][]byte, span api.Span) [][]byte {
	data := copies(shards)
	for i, shard := range fresh {
		if len(shard) > 0 {
			copy(data[i], shard)
		}
	}
	all := api.Span{To: len(shards[0])}
	old, young := s.encoded(shards, all), s.encoded(data, all)
	left := copies(shards)
	for j := s.k; j < s.k+s.m; j++ {
		for at := span.From; at < span.To; at++ {
			left[j][at] ^= old[j][at] ^ young[j][at]
		}
	}
	return left
}

// freshOf: fresh shards of these numbers, the others nil or empty.
func (d *dice) freshOf(s setting, numbers []int, length int) [][]byte {
	fresh := make([][]byte, s.k)
	for i := range fresh {
		if slices.Contains(numbers, i) {
			fresh[i] = d.bytes(length)
		} else if i%2 == 1 {
			fresh[i] = []byte{}
		}
	}
	return fresh
}

// checkUpdate: the span's bytes of the parity are what they must be, and nothing else is written, of the fresh shards too.
func checkUpdate(t *testing.T, s setting, shards, fresh [][]byte, span api.Span, run func(shards, fresh [][]byte) api.Errno) {
	t.Helper()
	about, beside := stage(shards), stage(fresh)
	e := run(about.shards, beside.shards)
	if e != api.OK || !alike(about.shards, s.updated(shards, fresh, span)) {
		t.Errorf("Update, %v, %v: %d, or other bytes", s, span, e)
	}
	if !about.kept(nil, firstOf(s.k + s.m)[s.k:]) || !beside.kept(nil, nil) {
		t.Errorf("Update, %v, %v: something beside the parity is changed", s, span)
	}
}

func TestUpdateExamples(t *testing.T) {
	for _, c := range (setting{api.Vander, 2, 1}).codecs(t) {
		shards := [][]byte{{5, 0}, {7, 1}, {1, 2}}
		if e := c.Update(shards, [][]byte{{}, {6, 1}}); e != api.OK || !alike(shards, [][]byte{{5, 0}, {7, 1}, {3, 2}}) {
			t.Errorf("Update: %d, %v", e, shards)
		}
		if ok, e := c.Verify([][]byte{{5, 0}, {6, 1}, {3, 2}}); !ok || e != api.OK {
			t.Errorf("Verify of what Update made: %v, %d", ok, e)
		}
	}
}

// Every set of fresh shards, of codewords and of others.
func TestUpdateWithAnyFreshShards(t *testing.T) {
	d := dice(20)
	for _, s := range small() {
		for _, c := range s.codecs(t) {
			for _, numbers := range subsets(s.k) {
				for _, shards := range [][][]byte{d.codeword(s, 11), d.shards(s.k+s.m, 11)} {
					checkUpdate(t, s, shards, d.freshOf(s, numbers, 11), api.Span{To: 11}, c.Update)
				}
			}
			if c.Cached() != 0 {
				t.Errorf("Update, %v: Cached is %d", s, c.Cached())
			}
		}
	}
}

func TestUpdateOfGreatCodes(t *testing.T) {
	d := dice(21)
	for _, s := range great() {
		for _, c := range s.codecs(t) {
			for _, count := range []int{0, 1, 2, s.k / 2, s.k} {
				numbers := d.some(min(count, s.k), s.k)
				checkUpdate(t, s, d.codeword(s, 9), d.freshOf(s, numbers, 9), api.Span{To: 9}, c.Update)
			}
		}
	}
}

// A codeword's parity becomes that of the fresh data.
func TestUpdateMakesACodeword(t *testing.T) {
	d := dice(22)
	for _, s := range append(small(), great()...) {
		c := s.codec(t, api.Sliced)
		old, young := d.codeword(s, 17), d.codeword(s, 17)
		if e := c.Update(old, young[:s.k]); e != api.OK || !alike(old[s.k:], young[s.k:]) {
			t.Errorf("Update, %v, all shards fresh: %d, or another parity", s, e)
		}
	}
}

// Fresh shards that are the old ones change nothing; so do none.
func TestUpdateWithNothingNew(t *testing.T) {
	d := dice(23)
	for _, s := range small() {
		for _, c := range s.codecs(t) {
			shards := d.shards(s.k+s.m, 9)
			want := copies(shards)
			if e := c.Update(shards, copies(shards[:s.k])); e != api.OK || !alike(shards, want) {
				t.Errorf("Update, %v, with the old data: %d, or other bytes", s, e)
			}
			if e := c.Update(shards, make([][]byte, s.k)); e != api.OK || !alike(shards, want) {
				t.Errorf("Update, %v, with nothing fresh: %d, or other bytes", s, e)
			}
		}
	}
}

func TestUpdateSpanAtEverySpan(t *testing.T) {
	d := dice(24)
	for _, s := range append(both([][2]int{{10, 4}}), small()...) {
		for _, c := range s.codecs(t) {
			for _, n := range []int{1, 10, 18} {
				for _, span := range spansOf(n) {
					numbers := d.some(d.next(s.k+1), s.k)
					checkUpdate(t, s, d.shards(s.k+s.m, n), d.freshOf(s, numbers, n), span, func(shards, fresh [][]byte) api.Errno {
						return c.UpdateSpan(shards, fresh, span)
					})
				}
			}
		}
	}
}

// Long shards, by spans one behind another and by one call.
func TestUpdateLongShards(t *testing.T) {
	d := dice(25)
	for _, s := range both([][2]int{{3, 2}}) {
		for _, c := range s.codecs(t) {
			shards, fresh := d.codeword(s, 20003), d.freshOf(s, []int{0, 2}, 20003)
			want := s.updated(shards, fresh, api.Span{To: 20003})
			parts := copies(shards)
			for from := 0; from < 20003; from += 1717 {
				c.UpdateSpan(parts, fresh, api.Span{From: from, To: min(from+1717, 20003)})
			}
			if e := c.Update(shards, fresh); e != api.OK || !alike(shards, want) || !alike(parts, want) {
				t.Errorf("Update, %v, long shards: %d, or other bytes", s, e)
			}
		}
	}
}
