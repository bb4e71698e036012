package mend

import (
	"slices"
	"testing"

	"cullet/api"
)

// P19.4, P19.5

func TestShardsExamples(t *testing.T) {
	checkMend(t, setting{api.Vander, 1, 2}, [][]byte{{5, 1}, {5, 2}, {6, 2}}, [][]byte{{5, 2}, {5, 2}, {5, 2}}, []int{0, 2})
	checkMend(t, setting{api.Vander, 1, 2}, [][]byte{{5}, {}, {6}}, nil, nil)
	checkMend(t, setting{api.Vander, 1, 2}, [][]byte{{5}, {}, {5}}, [][]byte{{5}, {5}, {5}}, nil)
	checkMend(t, setting{api.Vander, 2, 2}, [][]byte{{1}, {0}, {3}, {2}}, [][]byte{{1}, {0}, {3}, {2}}, nil)
	checkMend(t, setting{api.Vander, 2, 2}, [][]byte{{1}, {0}, {3}, {7}}, [][]byte{{1}, {0}, {3}, {2}}, []int{3})
	checkMend(t, setting{api.Cauchy, 2, 1}, [][]byte{{1}, {0}, nil}, [][]byte{{1}, {0}, {0x8E}}, nil)
	checkMend(t, setting{api.Cauchy, 2, 1}, [][]byte{{1}, {0}, {0x8F}}, nil, nil)
}

// checkMend: Find and Shards tell these shards; Find changes nothing, Shards makes the set the right one, in the present shards' places and in new memory. Where right is nil both answer ErrBeyond, and nothing is changed.
func checkMend(t *testing.T, s setting, shards, right [][]byte, wrong []int) {
	t.Helper()
	want := api.OK
	if right == nil {
		want = api.ErrBeyond
	}
	about := stage(shards)
	found, e := Find(s.f, s.k, s.m, about.shards)
	if e != want || !slices.Equal(found, wrong) || !about.kept(nil, nil) {
		t.Fatalf("Find, %v, %x: %v, %d, want %v, %d; or something is changed", s, head(shards), found, e, wrong, want)
	}
	found, e = Shards(s.f, s.k, s.m, about.shards)
	if e != want || !slices.Equal(found, wrong) {
		t.Fatalf("Shards, %v, %x: %v, %d, want %v, %d", s, head(shards), found, e, wrong, want)
	}
	if e != api.OK {
		if !about.kept(nil, nil) {
			t.Fatalf("Shards, %v, %x: something is changed beside the error %d", s, head(shards), e)
		}
		return
	}
	missing := beside(presentOf(shards), s.k+s.m)
	if !alike(about.shards, right) || !about.kept(missing, wrong) {
		t.Fatalf("Shards, %v, %x: made %x, want %x; or something else is changed", s, head(shards), head(about.shards), head(right))
	}
	checkNewMemory(t, about, missing, wrong)
}

// head: the beginning of a list that is too long to be told.
func head(shards [][]byte) [][]byte { return shards[:min(len(shards), 12)] }

// checkNewMemory: whatever is done to the given shards, their spare room too, no other shard and no old memory is changed by it.
func checkNewMemory(t *testing.T, about *scene, given, written []int) {
	t.Helper()
	was := copies(about.shards)
	for _, i := range given {
		all := about.shards[i][:cap(about.shards[i])]
		spoil(all)
		for other, shard := range about.shards {
			if other != i && !slices.Equal(shard, was[other]) {
				t.Fatalf("the given shard %d shares memory with shard %d", i, other)
			}
		}
		if !about.kept(given, written) {
			t.Fatalf("the given shard %d shares memory with what was handed in", i)
		}
		spoil(all)
	}
}

// spoilt: the shards, in memory of their own, with so many wrong bytes in each column, all of them in present shards; and which shards have one.
func (d *dice) spoilt(shards [][]byte, present []int, counts []int) (bad [][]byte, wrong []int) {
	bad = copies(shards)
	for at, count := range counts {
		for _, i := range d.some(count, len(present)) {
			number := present[i]
			bad[number][at] = d.other(bad[number][at])
			wrong = append(wrong, number)
		}
	}
	slices.Sort(wrong)
	return bad, slices.Compact(wrong)
}

// counts: for each of n columns a number up to the most; one column has the most.
func (d *dice) counts(n, most int) []int {
	list := make([]int, n)
	for i := range list {
		list[i] = d.next(most + 1)
	}
	list[d.next(n)] = most
	return list
}

// Every loss of every small code, with as many wrong bytes in a column as can be mended.
func TestMendEveryLoss(t *testing.T) {
	d := dice(10)
	for _, s := range small() {
		for _, missing := range subsets(s.k + s.m) {
			if len(missing) > s.m {
				continue
			}
			present := beside(missing, s.k+s.m)
			most := (s.m - len(missing)) / 2
			for range 4 {
				whole := d.codeword(s, 5)
				bad, wrong := d.spoilt(whole, present, d.counts(5, most))
				checkMend(t, s, without(bad, missing), whole, wrong)
			}
		}
	}
}

// Sets with any number of wrong bytes, held against the trial of all choices of right shards: some columns are beyond mending, some are mended to another codeword than that which they came from.
func TestMendByTrying(t *testing.T) {
	d := dice(11)
	beyond, strange := 0, 0
	for _, s := range small() {
		for _, missing := range subsets(s.k + s.m) {
			if len(missing) > s.m {
				continue
			}
			present := beside(missing, s.k+s.m)
			all := s.guides(present)
			for round := range 8 {
				whole := d.codeword(s, 3)
				bad, _ := d.spoilt(whole, present, d.counts(3, min(len(present), round)))
				shards := without(bad, missing)
				right, wrong := s.oracle(shards, all)
				checkMend(t, s, shards, right, wrong)
				switch {
				case right == nil:
					beyond++
				case !alike(right, whole) && len(present) > s.k:
					strange++
				}
			}
		}
	}
	if beyond == 0 || strange == 0 {
		t.Errorf("%d sets beyond mending, %d of another codeword", beyond, strange)
	}
}

// Bytes out of a few, so that many columns are near some codeword.
func TestMendAnyContents(t *testing.T) {
	d := dice(12)
	for _, s := range both([][2]int{{1, 2}, {1, 4}, {2, 2}, {2, 4}, {3, 4}}) {
		for _, missing := range subsets(s.k + s.m) {
			if len(missing) > s.m {
				continue
			}
			all := s.guides(beside(missing, s.k+s.m))
			for range 12 {
				shards := d.shards(s.k+s.m, 1+d.next(2))
				for _, shard := range shards {
					for at := range shard {
						shard[at] &= 1
					}
				}
				shards = without(shards, missing)
				right, wrong := s.oracle(shards, all)
				checkMend(t, s, shards, right, wrong)
			}
		}
	}
}

// Codes at the limits, whole and with several losses, up to as many as there are parity shards.
func TestMendGreatCodes(t *testing.T) {
	d := dice(13)
	for _, s := range great() {
		n := s.k + s.m
		for _, lost := range []int{0, 1, 2, s.m / 2, s.m - 2, s.m - 1, s.m} {
			if lost < 0 || lost > s.m {
				continue
			}
			missing := d.some(lost, n)
			present := beside(missing, n)
			whole := d.codeword(s, 4)
			most := (s.m - lost) / 2
			bad, wrong := d.spoilt(whole, present, []int{most, 0, d.next(most + 1), most})
			checkMend(t, s, without(bad, missing), whole, wrong)
		}
		for _, missing := range [][]int{firstOf(min(s.k, s.m)), firstOf(n)[n-s.m:]} {
			whole := d.codeword(s, 2)
			checkMend(t, s, without(whole, missing), whole, nil)
		}
	}
}

// All wrong bytes in data shards, all in parity shards, all of one difference; and a codeword of zeros.
func TestMendAtOneEnd(t *testing.T) {
	d := dice(14)
	for _, s := range append(small(), great()...) {
		n := s.k + s.m
		most := s.m / 2
		for _, numbers := range [][]int{firstOf(min(s.k, most)), firstOf(n)[n-most:]} {
			for _, whole := range [][][]byte{d.codeword(s, 3), zeros(n, 3)} {
				bad := copies(whole)
				for _, number := range numbers {
					bad[number][0] ^= 0x5A
					bad[number][2] = d.other(bad[number][2])
				}
				checkMend(t, s, bad, whole, numbers)
			}
		}
	}
}

func zeros(count, length int) [][]byte {
	var list [][]byte
	for range count {
		list = append(list, make([]byte, length))
	}
	return list
}

// One column of many is beyond mending: the first, the last, one between. Where what is spare is odd, one wrong byte more than half of it is beyond always.
func TestOneColumnBeyond(t *testing.T) {
	d := dice(15)
	for _, s := range append(small(), great()...) {
		n := s.k + s.m
		for _, lost := range []int{s.m%2 ^ 1, s.m - 1} {
			missing := d.some(lost, n)
			present := beside(missing, n)
			most := (s.m - lost) / 2
			const length = 7
			for _, at := range []int{0, 3, length - 1} {
				counts := d.counts(length, most)
				counts[at] = most + 1
				bad, _ := d.spoilt(d.codeword(s, length), present, counts)
				checkMend(t, s, without(bad, missing), nil, nil)
			}
		}
	}
}

// Long shards, in which a shard is wrong in one byte alone, the first one or the last one among them.
func TestMendLongShards(t *testing.T) {
	d := dice(16)
	for _, s := range both([][2]int{{4, 3}, {8, 4}, {1, 2}}) {
		n := s.k + s.m
		for _, length := range []int{1, 2, 255, 256, 257, 5000} {
			for _, at := range []int{0, length / 2, length - 1} {
				whole := d.codeword(s, length)
				bad := copies(whole)
				number := d.next(n)
				bad[number][at] = d.other(bad[number][at])
				checkMend(t, s, bad, whole, []int{number})
			}
		}
	}
}

// Every number of data shards, with few parity shards and with as many as there can be.
func TestMendEveryNumberOfDataShards(t *testing.T) {
	d := dice(17)
	for k := 1; k <= 255; k++ {
		for _, m := range []int{1, 2, 3, min(7, 256-k), 256 - k} {
			if k+m > 256 || m < 1 {
				continue
			}
			for _, s := range both([][2]int{{k, m}}) {
				lost := d.next(m + 1)
				missing := d.some(lost, k+m)
				whole := d.codeword(s, 1)
				bad, wrong := d.spoilt(whole, beside(missing, k+m), []int{(m - lost) / 2})
				checkMend(t, s, without(bad, missing), whole, wrong)
			}
		}
	}
}
