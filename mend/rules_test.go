package mend

import (
	"bytes"
	"math"
	"slices"
	"sync"
	"testing"

	"cullet/api"
)

// What holds for all calls: P1, P8 and the document's rules.

// columnError: that of Syndromes by its promise; each is a question of its own.
func columnError(k int, points []int, values []byte) api.Errno {
	outside := func(p int) bool { return p < 0 || p > 255 }
	sorted := slices.Clone(points)
	slices.Sort(sorted)
	switch {
	case k < 1 || k > 256 || len(points) > 256:
		return api.ErrParams
	case slices.ContainsFunc(points, outside) || !slices.Equal(slices.Compact(sorted), points):
		return api.ErrRow
	case len(values) != len(points):
		return api.ErrLens
	case len(points) < k:
		return api.ErrTooFew
	}
	return api.OK
}

// checkColumnError: both calls answer the promised error, and beside it nothing. Column's values, where there are some, are those of the polynomial 0, so that it is never beyond.
func checkColumnError(t *testing.T, k int, points []int, values []byte) {
	t.Helper()
	want := columnError(k, points, values)
	points = append(make([]int, 0, len(points)+3), points...)
	wasPoints, wasValues := slices.Clone(points), bytes.Clone(values)
	syndromes, e := Syndromes(k, points, values)
	if e != want || e != api.OK && len(syndromes) > 0 {
		t.Fatalf("Syndromes(%d, %v, %d values) = %x, %d, want %d", k, points, len(values), syndromes, e, want)
	}
	fixed, wrong, e := Column(k, points, values)
	if e != want || e != api.OK && len(fixed) > 0 || len(wrong) > 0 {
		t.Fatalf("Column(%d, %v, %d values) = %x, %v, %d, want %d", k, points, len(values), fixed, wrong, e, want)
	}
	if !slices.Equal(points, wasPoints) || !bytes.Equal(values, wasValues) {
		t.Fatalf("%d, %v: what was handed in is changed", k, wasPoints)
	}
}

// degrees: good ones and bad ones.
func degrees() []int {
	return []int{math.MinInt, -1 << 32, -1, 0, 1, 2, 3, 4, 255, 256, 257, 1 << 32, 1<<32 + 1, math.MaxInt}
}

// All short lists of points out of good and bad ones, with as many values, fewer and more.
func TestErrorsOfAllShortColumns(t *testing.T) {
	some := []int{0, 1, 2, 255, 256, -1, math.MaxInt, math.MinInt, 1 << 32}
	for n := range 4 {
		countLists(n, len(some), func(list []int) {
			var points []int
			for _, i := range list {
				points = append(points, some[i])
			}
			for _, k := range degrees() {
				for _, count := range []int{0, n - 1, n, n + 1, 300} {
					if count >= 0 {
						checkColumnError(t, k, points, make([]byte, count))
					}
				}
			}
		})
	}
}

// Lists of points at the limit and beyond, with one that is wrong at several places.
func TestErrorsOfGreatColumns(t *testing.T) {
	for _, n := range []int{254, 255, 256, 257, 300, 1025} {
		for _, k := range append(degrees(), n-1, n, n+1) {
			good := firstOf(n)
			lists := [][]int{good, make([]int, n)}
			for _, at := range []int{0, 1, n / 2, n - 1} {
				for _, bad := range []int{-1, 256, at - 1, at + 1, math.MinInt, math.MaxInt, at + 256, at + 1<<32} {
					list := slices.Clone(good)
					list[at] = bad
					lists = append(lists, list)
				}
			}
			for _, points := range lists {
				for _, count := range []int{0, n - 1, n, n + 1} {
					if columnError(k, points, make([]byte, count)) == api.OK && k%2 == 1 {
						continue
					}
					checkColumnError(t, k, points, make([]byte, count))
				}
			}
		}
	}
}

// setError: that of Find and Shards by their promises, but for ErrBeyond.
func (s setting) setError(shards [][]byte) api.Errno {
	lengths := map[int]int{}
	for _, shard := range shards {
		lengths[len(shard)]++
	}
	empty := lengths[0]
	delete(lengths, 0)
	switch {
	case s.f != api.Vander && s.f != api.Cauchy:
		return api.ErrFamily
	case s.k < 1 || s.m < 1 || s.k > 256 || s.m > 256 || s.k+s.m > 256:
		return api.ErrParams
	case len(shards) != s.k+s.m:
		return api.ErrCount
	case empty == len(shards):
		return api.ErrEmpty
	case len(lengths) > 1:
		return api.ErrUneven
	case len(shards)-empty < s.k:
		return api.ErrTooFew
	}
	return api.OK
}

// checkSetError: both calls answer the promised error, and beside it nothing is answered and nothing changed. The shards that are present are zeros, a codeword.
func checkSetError(t *testing.T, s setting, shards [][]byte) {
	t.Helper()
	want := s.setError(shards)
	for name, run := range map[string]func(api.Family, int, int, [][]byte) ([]int, api.Errno){"Find": Find, "Shards": Shards} {
		about := stage(shards)
		wrong, e := run(s.f, s.k, s.m, about.shards)
		if e != want || len(wrong) > 0 || e != api.OK && !about.kept(nil, nil) {
			t.Fatalf("%s, %v, %x: %v, %d, want %d; or something is changed", name, s, head(shards), wrong, e, want)
		}
	}
}

// blank: shards of zeros of these lengths.
func blank(lengths ...int) [][]byte {
	list := shardsOf(lengths...)
	for _, shard := range list {
		clear(shard)
	}
	return list
}

func families() []api.Family {
	return []api.Family{api.Vander, api.Cauchy, api.Long, 3, -1, math.MinInt, math.MaxInt, 1 << 32}
}

// All short lists of shards of lengths 0 to 3, of all families that there are and some that there aren't.
func TestErrorsOfAllShortLists(t *testing.T) {
	for _, f := range families() {
		for _, p := range [][2]int{{1, 1}, {2, 1}, {1, 2}, {2, 2}, {3, 1}, {0, 1}, {1, 0}, {-1, 4}, {256, 1}} {
			for n := range 6 {
				countLists(n, 4, func(lengths []int) { checkSetError(t, setting{f, p[0], p[1]}, blank(lengths...)) })
			}
		}
	}
}

func TestErrorsOfParameters(t *testing.T) {
	numbers := []int{math.MinInt, math.MinInt + 1, -256, -1, 0, 1, 2, 127, 128, 129, 254, 255, 256, 257, 65536, 1 << 32, 1<<32 + 1, math.MaxInt - 1, math.MaxInt}
	for _, f := range families() {
		for _, k := range numbers {
			for _, m := range numbers {
				for _, shards := range [][][]byte{nil, blank(1), blank(0, 0), blank(2, 1, 0)} {
					checkSetError(t, setting{f, k, m}, shards)
				}
				if k > 0 && m > 0 && k < 300 && m < 300 {
					checkSetError(t, setting{f, k, m}, zeros(k+m, 1))
				}
			}
		}
	}
}

// Of great codes: a shard too few, one too many, one of another length, too many empty ones. The sets are of no codeword as well, and beyond stands behind all else.
func TestErrorsOfGreatSets(t *testing.T) {
	d := dice(20)
	for _, s := range great() {
		n := s.k + s.m
		whole := d.shards(n, 3)
		sets := [][][]byte{whole[:n-1], append(slices.Clone(whole), d.bytes(3)), without(whole, firstOf(n)), without(whole, firstOf(s.m+1)), without(whole, firstOf(n)[s.k-1:]), without(whole, firstOf(n-1))}
		for _, at := range []int{0, 1, s.k - 1, s.k, n - 1} {
			sets = append(sets, slices.Concat(whole[:at], [][]byte{d.bytes(4)}, whole[at+1:]), slices.Concat(whole[:at], [][]byte{d.bytes(2)}, whole[at+1:]))
		}
		for _, shards := range sets {
			if s.setError(shards) != api.OK {
				checkSetError(t, s, shards)
			}
		}
	}
}

// Long is refused, however well its shards fit.
func TestLongIsRefused(t *testing.T) {
	for _, shards := range [][][]byte{nil, blank(2, 2, 2), blank(2, 0, 2), blank(1, 1, 1), blank(0, 0, 0), {{5, 0}, {5, 0}, {5, 0}}} {
		checkSetError(t, setting{api.Long, 1, 2}, shards)
		checkSetError(t, setting{api.Long, 2, 1}, shards)
	}
}

// Shards that share memory with one another: the calls end, and no byte outside of them is changed.
func TestShardsThatShareMemory(t *testing.T) {
	d := dice(21)
	for _, s := range both([][2]int{{3, 2}, {1, 3}, {1, 4}}) {
		for _, step := range []int{0, 1, 7} {
			for _, missing := range [][]int{nil, {0}, {s.k}, {1, 2}} {
				for _, mask := range []byte{0, 1, 0xFF} {
					array := d.bytes(80)
					for i := range array {
						array[i] &= mask
					}
					was := bytes.Clone(array)
					var shards [][]byte
					for i := range s.k + s.m {
						shards = append(shards, array[20+i*step:20+i*step+17])
					}
					end := 20 + (s.k+s.m-1)*step + 17
					list := without(shards, missing)
					endsQuietly(t, "Find", func() { Find(s.f, s.k, s.m, list) })
					if !bytes.Equal(array, was) {
						t.Errorf("Find, %v, shards %d bytes from one another: a byte is changed", s, step)
					}
					endsQuietly(t, "Shards", func() { Shards(s.f, s.k, s.m, list) })
					if !bytes.Equal(array[:20], was[:20]) || !bytes.Equal(array[end:], was[end:]) {
						t.Errorf("Shards, %v, shards %d bytes from one another: a byte outside of them is changed", s, step)
					}
				}
			}
		}
	}
}

// Shards one behind another in one array: each lies in the others' spare room, and that is no sharing.
func TestShardsOfOneArray(t *testing.T) {
	d := dice(22)
	for _, s := range small() {
		const length = 9
		n := s.k + s.m
		whole := d.codeword(s, length)
		bad, wrong := d.spoilt(whole, firstOf(n), d.counts(length, s.m/2))
		array := slices.Concat(bad...)
		var shards [][]byte
		for i := range n {
			shards = append(shards, array[i*length:(i+1)*length])
		}
		found, e := Shards(s.f, s.k, s.m, shards)
		if e != api.OK || !slices.Equal(found, wrong) || !bytes.Equal(array, slices.Concat(whole...)) {
			t.Fatalf("Shards, %v, of one array: %v, %d, or other bytes", s, found, e)
		}
		lost := slices.Clone(shards)
		lost[n-1] = lost[n-1][:0]
		clear(array[(n-1)*length:])
		was := bytes.Clone(array)
		if _, e := Shards(s.f, s.k, s.m, lost); e != api.OK || !alike(lost, whole) || !bytes.Equal(array, was) {
			t.Fatalf("Shards, %v, of one array, the last one lost: %d, or other bytes", s, e)
		}
	}
}

// What was handed in and what was answered is the caller's behind the call, and nothing is kept: the same call answers the same, whatever was called between.
func TestNothingIsKept(t *testing.T) {
	d := dice(23)
	s := setting{api.Cauchy, 3, 4}
	whole := d.codeword(s, 4)
	bad, wrong := d.spoilt(whole, firstOf(7), []int{2, 1, 0, 2})
	for range 20 {
		shards := without(copies(bad), []int{})
		found, e := Shards(s.f, s.k, s.m, shards)
		if e != api.OK || !slices.Equal(found, wrong) || !alike(shards, whole) {
			t.Fatalf("Shards: %v, %d, or other bytes", found, e)
		}
		for _, shard := range shards {
			spoil(shard)
		}
		clear(found)
		other := setting{api.Family(d.next(2)), 1 + d.next(5), 1 + d.next(5)}
		Shards(other.f, other.k, other.m, d.shards(other.k+other.m, 3))
		Column(2, []int{0, 5, 6, 7}, d.bytes(4))
		for _, shard := range shards {
			spoil(shard)
		}
		if !alike(shards, whole) {
			t.Fatal("a later call has changed an earlier one's shards")
		}
	}
}

// Calls at one time: those that change nothing on the same lists, the others on lists of their own (the race detector's test).
func TestCompany(t *testing.T) {
	d := dice(24)
	for _, s := range both([][2]int{{4, 4}}) {
		whole := d.codeword(s, 40)
		bad, wrong := d.spoilt(whole, firstOf(8)[1:], d.counts(40, 1))
		bad[0] = nil
		points := []int{2, 3, 9, 200}
		right := values([]byte{7, 9}, points)
		right[2] ^= 4
		var all sync.WaitGroup
		for range 8 {
			own := copies(bad)
			all.Go(func() {
				if found, e := Find(s.f, s.k, s.m, bad); e != api.OK || !slices.Equal(found, wrong) {
					t.Errorf("Find in company: %v, %d", found, e)
				}
				if _, e := Shards(s.f, s.k, s.m, own); e != api.OK || !alike(own, whole) {
					t.Errorf("Shards in company: %d, or other bytes", e)
				}
				if _, at, e := Column(2, points, right); e != api.OK || !slices.Equal(at, []int{9}) {
					t.Errorf("Column in company: %v, %d", at, e)
				}
				if list, e := Syndromes(2, points, right); e != api.OK || len(list) != 2 {
					t.Errorf("Syndromes in company: %x, %d", list, e)
				}
			})
		}
		all.Wait()
	}
}
