package engine

import (
	"slices"
	"testing"

	"cullet/api"
)

// P23.2 to P23.5, with P2 to P5.

// lengths: those that are a piece of a span, spans, and spans with a rest.
func (s setting) lengths() []int {
	if s.isLong() {
		return []int{2, 4, 6, 14}
	}
	return []int{1, 2, 3, 7, 13}
}

func (s setting) parity() []int { return between(s.k, s.count()) }

// Encode writes the parity in its place, whatever was there; Verify says so, and changes nothing.
func TestEncode(t *testing.T) {
	d := dice(10)
	for _, s := range append(small(), middling()...) {
		engines := s.engines(t)
		for _, n := range s.lengths() {
			shards := d.shards(s.count(), n)
			want := s.encoded(shards)
			for _, e := range engines {
				about := stage(shards)
				if fault := e.Encode(about.shards); fault != api.OK || !alike(about.shards, want) || !about.kept(nil, s.parity()) {
					t.Fatalf("Encode, %+v, length %d: %d, or other bytes", e.options, n, fault)
				}
				about = stage(want)
				if good, fault := e.Verify(about.shards); !good || fault != api.OK || !about.kept(nil, nil) {
					t.Fatalf("Verify, %+v, length %d: %v, %d, or something is changed", e.options, n, good, fault)
				}
			}
		}
	}
}

// Each byte that is changed in a codeword is told.
func TestVerifyOfOthers(t *testing.T) {
	d := dice(11)
	for _, s := range append(small(), setting{api.Vander, 10, 4}, setting{api.Cauchy, 17, 9}, setting{api.Long, 33, 8}) {
		for _, e := range s.engines(t) {
			whole := d.codeword(s, 8)
			for number := range whole {
				for at := range whole[number] {
					about := stage(whole)
					about.shards[number][at] ^= byte(1 + d.next(255))
					about = stage(about.shards)
					if good, fault := e.Verify(about.shards); good || fault != api.OK || !about.kept(nil, nil) {
						t.Fatalf("Verify, %+v, byte %d of shard %d is another: %v, %d, or something is changed", e.options, at, number, good, fault)
					}
				}
			}
			// Changes in up to m shards, and any contents.
			for range 10 {
				other := copies(whole)
				for _, number := range d.some(1+d.next(s.m), s.count()) {
					other[number] = d.bytes(len(other[number]))
				}
				if good, fault := e.Verify(other); good != alike(s.encoded(other), other) || fault != api.OK {
					t.Fatalf("Verify, %+v, shards are others: %v, %d", e.options, good, fault)
				}
			}
		}
	}
}

// checkRestore: both calls give back what must come of these missing shards, and nothing else.
func checkRestore(t *testing.T, e *Engine, s setting, shards [][]byte, missing []int) {
	t.Helper()
	want := s.restored(shards, missing)
	for i := range want {
		if !slices.Contains(missing, i) {
			want[i] = shards[i]
		}
	}
	about := stage(without(shards, missing))
	if fault := e.Reconstruct(about.shards); fault != api.OK || !alike(about.shards, want) || !about.kept(missing, nil) {
		t.Fatalf("Reconstruct, %+v without %v: %d, or other bytes", e.options, missing, fault)
	}
	checkNewMemory(t, about, missing)
	data := slices.DeleteFunc(slices.Clone(missing), func(n int) bool { return n >= s.k })
	for _, number := range missing[len(data):] {
		want[number] = nil
	}
	about = stage(without(shards, missing))
	if fault := e.ReconstructData(about.shards); fault != api.OK || !alike(about.shards, want) || !about.kept(data, nil) {
		t.Fatalf("ReconstructData, %+v without %v: %d, or other bytes", e.options, missing, fault)
	}
	checkNewMemory(t, about, data)
}

// checkNewMemory: what was given back shares no memory, spare room included, with anything else of the list.
func checkNewMemory(t *testing.T, about *scene, missing []int) {
	t.Helper()
	was := copies(about.shards)
	for _, number := range missing {
		shard := about.shards[number]
		for i := range shard[:cap(shard)] {
			shard[:cap(shard)][i] ^= 0x5A
		}
		if !about.kept(missing, nil) {
			t.Fatalf("the new shard %d shares memory with what was there", number)
		}
		for i, other := range about.shards {
			if i != number && !slices.Equal(other, was[i]) {
				t.Fatalf("the new shard %d shares memory with shard %d", number, i)
			}
		}
		copy(shard, was[number])
	}
}

// Every loss of small codes: of codewords, whose shards come back, and of any contents.
func TestReconstructEveryLoss(t *testing.T) {
	d := dice(12)
	for _, s := range small() {
		engines := s.engines(t)
		for i, missing := range subsets(s.count()) {
			if len(missing) > s.m {
				continue
			}
			whole := d.codeword(s, 5)
			if !alike(s.restored(whole, missing), whole) {
				t.Fatalf("%v without %v: the test's own sums don't give the codeword back", s, missing)
			}
			for _, e := range engines {
				checkRestore(t, e, s, whole, missing)
				checkRestore(t, e, s, d.shards(s.count(), s.lengths()[i%4]), missing)
			}
		}
	}
}

func TestReconstructGreaterCodes(t *testing.T) {
	d := dice(13)
	for _, s := range middling() {
		for _, e := range s.engines(t) {
			whole := d.codeword(s, 4)
			for _, missing := range [][]int{nil, d.some(1, s.count()), d.some(s.m, s.count()), s.parity(), between(0, min(s.k, s.m)), []int{0, s.count() - 1}[:min(2, s.m)]} {
				lost := without(whole, missing)
				if fault := e.Reconstruct(lost); fault != api.OK || !alike(lost, whole) {
					t.Fatalf("Reconstruct, %+v without %v: %d, or other bytes", e.options, missing, fault)
				}
			}
			if few := d.some(min(s.m, 3), s.count()); s.count() < 60 {
				checkRestore(t, e, s, whole, few)
				checkRestore(t, e, s, d.shards(s.count(), 4), few)
			}
		}
	}
}

// Fewer than k present ones: ErrTooFew, none: ErrEmpty, and nothing is changed.
func TestReconstructOfTooFew(t *testing.T) {
	d := dice(14)
	for _, s := range small() {
		for _, e := range s.engines(t) {
			for _, missing := range subsets(s.count()) {
				if len(missing) <= s.m {
					continue
				}
				want := api.ErrTooFew
				if len(missing) == s.count() {
					want = api.ErrEmpty
				}
				for _, call := range []func([][]byte) api.Errno{e.Reconstruct, e.ReconstructData} {
					about := stage(without(d.codeword(s, 3), missing))
					if fault := call(about.shards); fault != want || !about.kept(nil, nil) {
						t.Fatalf("%+v without %v: %d, want %d, or something is changed", e.options, missing, fault, want)
					}
				}
			}
		}
	}
}

// Update turns the parity by what the fresh shards change, of codewords and of any contents; data and fresh ones stay.
func TestUpdate(t *testing.T) {
	d := dice(15)
	for _, s := range append(small(), setting{api.Vander, 10, 4}, setting{api.Cauchy, 128, 128}, setting{api.Long, 17, 9}) {
		for _, e := range s.engines(t) {
			for i, n := range s.lengths() {
				for _, turned := range [][]int{nil, d.some(1, s.k), d.some(1+d.next(s.k), s.k), between(0, s.k)} {
					shards := d.shards(s.count(), n)
					if i%2 == 0 {
						shards = s.encoded(shards)
					}
					still := slices.DeleteFunc(between(0, s.k), func(i int) bool { return slices.Contains(turned, i) })
					about, fresh := stage(shards), stage(without(d.shards(s.k, n), still))
					want := s.updated(shards, fresh.shards)
					if fault := e.Update(about.shards, fresh.shards); fault != api.OK || !alike(about.shards, want) || !about.kept(nil, s.parity()) || !fresh.kept(nil, nil) {
						t.Fatalf("Update, %+v, length %d, fresh %v: %d, or other bytes", e.options, n, turned, fault)
					}
					for _, number := range turned {
						about.shards[number] = fresh.shards[number]
					}
					if good, _ := e.Verify(about.shards); i%2 == 0 && !good {
						t.Fatalf("Update, %+v, length %d, fresh %v: no codeword's parity", e.options, n, turned)
					}
				}
			}
		}
	}
}

// Shards of more spans than crew cuts a length into, so that each is longer than the stripe.
func TestManySpans(t *testing.T) {
	d := dice(16)
	for _, s := range []setting{{api.Vander, 2, 1}, {api.Long, 2, 1}} {
		for _, scripted := range []bool{false, true} {
			o := s.options()
			o.Stripe, o.Scripted, o.Picks = 1, scripted, d.picks(1000, 5)
			e := made(t, o)
			shards := d.shards(3, 65536*s.width()+2)
			want := s.encoded(shards)
			if fault := e.Encode(shards); fault != api.OK || !alike(shards, want) {
				t.Fatalf("Encode, %v: %d, or other bytes", s, fault)
			}
			lost := without(shards, []int{0})
			if fault := e.Reconstruct(lost); fault != api.OK || !alike(lost, want) {
				t.Fatalf("Reconstruct, %v: %d, or other bytes", s, fault)
			}
			shards[2][len(shards[2])-1]++
			if good, fault := e.Verify(shards); good || fault != api.OK {
				t.Fatalf("Verify, %v, the last byte is another: %v, %d", s, good, fault)
			}
		}
	}
}

// The greatest codes of Long; and few present shards among very many lost ones, of which data alone are given back.
func TestGreatestCodes(t *testing.T) {
	d := dice(17)
	for _, p := range [][2]int{{65535, 1}, {32768, 32768}, {40000, 20}, {2, 30000}} {
		s := setting{api.Long, p[0], p[1]}
		o := s.options()
		o.Backend = api.Fast
		e := made(t, o)
		shards := d.shards(s.count(), 2)
		if fault := e.Encode(shards); fault != api.OK {
			t.Fatalf("Encode, %v: %d", s, fault)
		}
		for _, j := range []int{0, s.m / 2, s.m - 1} {
			if want := s.sum(s.parityRow(j), shards, 2); !slices.Equal(shards[s.k+j], want) {
				t.Fatalf("Encode, %v: parity shard %d is %v, want %v", s, j, shards[s.k+j], want)
			}
		}
		lost := without(shards, d.some(s.m, s.count()))
		if fault := e.Reconstruct(lost); fault != api.OK || !alike(lost, shards) {
			t.Fatalf("Reconstruct, %v: %d, or other bytes", s, fault)
		}
	}
	s := setting{api.Long, 2, 30000}
	o := s.options()
	o.Stripe = 100
	e := made(t, o)
	shards := make([][]byte, s.count())
	shards[0], shards[1] = d.bytes(300), d.bytes(300)
	lost := slices.Clone(shards)
	lost[0] = nil
	lost[s.k+7] = s.sum(s.parityRow(7), shards, 300)
	if fault := e.ReconstructData(lost); fault != api.OK || !alike(lost[:2], shards[:2]) || len(lost[s.k]) > 0 {
		t.Fatalf("ReconstructData, %v: %d, or other bytes", s, fault)
	}
}

// The chapter's first two examples, and the document's second, fourth, fifth and sixth.
func TestExamples(t *testing.T) {
	cauchy, long := made(t, setting{api.Cauchy, 2, 1}.options()), made(t, setting{api.Long, 2, 1}.options())
	shards := [][]byte{{1}, {0}, {0}}
	if fault := cauchy.Encode(shards); fault != api.OK || !alike(shards, [][]byte{{1}, {0}, {0x8E}}) {
		t.Errorf("Cauchy: %d, %v", fault, shards)
	}
	shards = [][]byte{{1, 2}, {3, 4}, {0, 0}}
	if fault := long.Encode(shards); fault != api.OK || !alike(shards, [][]byte{{1, 2}, {3, 4}, {2, 6}}) {
		t.Errorf("Long: %d, %v", fault, shards)
	}
	for i, o := range (setting{api.Vander, 2, 1}).manyOptions() {
		e := made(t, o)
		shards := [][]byte{{5, 0}, {7, 1}, {0, 0}}
		if fault := e.Encode(shards); fault != api.OK || !alike(shards, [][]byte{{5, 0}, {7, 1}, {1, 2}}) {
			t.Errorf("%d: Encode: %d, %v", i, fault, shards)
		}
		shards[0] = nil
		if fault := e.Reconstruct(shards); fault != api.OK || !alike(shards, [][]byte{{5, 0}, {7, 1}, {1, 2}}) {
			t.Errorf("%d: Reconstruct: %d, %v", i, fault, shards)
		}
		if fault := e.Reconstruct(shards[:2]); fault != api.ErrCount {
			t.Errorf("%d: Reconstruct of two shards: %d", i, fault)
		}
		if fault := e.Update(shards, [][]byte{nil, {6, 1}}); fault != api.OK || !alike(shards, [][]byte{{5, 0}, {7, 1}, {3, 2}}) {
			t.Errorf("%d: Update: %d, %v", i, fault, shards)
		}
	}
	if fault := long.Reconstruct([][]byte{nil, nil, {1, 2, 3}}); fault != api.ErrOdd {
		t.Errorf("Reconstruct of three bytes: %d", fault)
	}
	if fault := long.Encode([][]byte{{1, 2}, nil, {1, 2, 3, 4}}); fault != api.ErrEmpty {
		t.Errorf("Encode of shards of 2, 0 and 4 bytes: %d", fault)
	}
}
