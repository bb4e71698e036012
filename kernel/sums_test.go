package kernel

import (
	"bytes"
	"testing"

	"cullet/api"
	"cullet/gf8"
)

// counts: numbers of sources and of sums.
func counts() []int { return []int{0, 1, 2, 3, 5, 16} }

// P9.3

// Every factor with every byte, as the product of one source and as a part of a greater sum.
func TestDotOfEveryPair(t *testing.T) {
	each(t, func(t *testing.T, s *Set) {
		for c := range 256 {
			one, two := mixed(1, 256), mixed(2, 256)
			other := mixed(c, 256)
			if e := s.Dot([]byte{byte(c)}, [][]byte{everyByte()}, one); e != api.OK {
				t.Fatalf("Dot by %d: %d", c, e)
			}
			if e := s.Dot([]byte{byte(c), 1, byte(c) ^ 77}, [][]byte{everyByte(), other, other}, two); e != api.OK {
				t.Fatalf("Dot by %d and others: %d", c, e)
			}
			for x := range 256 {
				want := gf8.Mul(byte(c), byte(x))
				sum := want ^ other[x] ^ gf8.Mul(byte(c)^77, other[x])
				if one[x] != want || two[x] != sum {
					t.Fatalf("Dot by %d at %d: %d in the place of %d, with others %d in the place of %d", c, x, one[x], want, two[x], sum)
				}
			}
		}
	})
}

func TestDotAtAllLengths(t *testing.T) {
	each(t, func(t *testing.T, s *Set) {
		for _, n := range lengths() {
			for _, count := range counts() {
				row := mixed(n+count, count)
				srcs, origin := laid(mixedLists(n, count, n))
				dst, around := piece(5, mixed(n+1, n))
				kept, want := bytes.Clone(origin), bytes.Clone(around)
				for i := range n {
					want[5+i] = sumAt(row, srcs, i)
				}
				if e := s.Dot(row, srcs, dst); e != api.OK {
					t.Fatalf("Dot of %d sources of %d bytes: %d", count, n, e)
				}
				if !bytes.Equal(around, want) {
					t.Fatalf("Dot of %d sources of %d bytes: wrong bytes in dst or about it", count, n)
				}
				if !bytes.Equal(origin, kept) || !bytes.Equal(row, mixed(n+count, count)) {
					t.Fatalf("Dot of %d sources of %d bytes has changed what it read", count, n)
				}
			}
		}
	})
}

// Factors that are all nought, all one, or one at each place.
func TestDotOfPlainRows(t *testing.T) {
	each(t, func(t *testing.T, s *Set) {
		srcs := mixedLists(4, 6, 43)
		xored := make([]byte, 43)
		for _, src := range srcs {
			Xor(xored, src)
		}
		dst := mixed(1, 43)
		if e := s.Dot(make([]byte, 6), srcs, dst); e != api.OK || !bytes.Equal(dst, make([]byte, 43)) {
			t.Errorf("Dot by noughts: %d %x", e, dst)
		}
		if e := s.Dot([]byte{1, 1, 1, 1, 1, 1}, srcs, dst); e != api.OK || !bytes.Equal(dst, xored) {
			t.Errorf("Dot by ones: %d %x", e, dst)
		}
		for i := range srcs {
			row := make([]byte, 6)
			row[i] = 1
			if e := s.Dot(row, srcs, dst); e != api.OK || !bytes.Equal(dst, srcs[i]) {
				t.Errorf("Dot by one at %d: %d %x", i, e, dst)
			}
		}
		for _, row := range [][]byte{nil, {}} {
			for _, none := range [][][]byte{nil, {}} {
				dst := mixed(3, 9)
				if e := s.Dot(row, none, dst); e != api.OK || !bytes.Equal(dst, make([]byte, 9)) {
					t.Errorf("Dot of no sources: %d %x", e, dst)
				}
				if e := s.Dot(row, none, nil); e != api.OK {
					t.Errorf("Dot of no sources into no bytes: %d", e)
				}
			}
		}
		if e := s.Dot([]byte{1, 2, 3}, [][]byte{nil, {}, mixed(1, 3)[:0]}, nil); e != api.OK {
			t.Errorf("Dot of sources without bytes: %d", e)
		}
	})
}

// 256 sources, each of its own factor.
func TestDotOfManySources(t *testing.T) {
	each(t, func(t *testing.T, s *Set) {
		srcs, dst := mixedLists(8, 256, 77), mixed(1, 77)
		if e := s.Dot(everyByte(), srcs, dst); e != api.OK {
			t.Fatalf("Dot of 256 sources: %d", e)
		}
		for i, x := range dst {
			if want := sumAt(everyByte(), srcs, i); x != want {
				t.Fatalf("Dot of 256 sources at %d: %d in the place of %d", i, x, want)
			}
		}
	})
}

// P9.4

func TestApplyOfEveryFactor(t *testing.T) {
	each(t, func(t *testing.T, s *Set) {
		rows := make([][]byte, 256)
		for c := range rows {
			rows[c] = []byte{byte(c), byte(c) ^ 3}
		}
		srcs := [][]byte{everyByte(), mixed(5, 256)}
		dsts := mixedLists(6, 256, 256)
		if e := s.Apply(rows, srcs, dsts, api.Span{To: 256}); e != api.OK {
			t.Fatalf("Apply of 256 rows: %d", e)
		}
		for c, dst := range dsts {
			for x := range dst {
				if want := gf8.Mul(byte(c), byte(x)) ^ gf8.Mul(byte(c)^3, srcs[1][x]); dst[x] != want {
					t.Fatalf("Apply at row %d, place %d: %d in the place of %d", c, x, dst[x], want)
				}
			}
		}
	})
}

// Every number of sources and of sums, every length, the edges of spans; rows, srcs and dsts as parts of greater arrays.
func TestApplyAtAllLengths(t *testing.T) {
	each(t, func(t *testing.T, s *Set) {
		for _, n := range lengths() {
			for _, count := range counts() {
				parts := (n + count) % 4
				if count == 2 {
					parts = 0
				}
				rows, factors := laid(mixedLists(n+9, parts, count))
				srcs, origin := laid(mixedLists(n, count, n))
				wasRows, wasSrcs := bytes.Clone(factors), bytes.Clone(origin)
				if count+parts == 0 && n > 0 {
					continue // there is no slice, so no place
				}
				for _, span := range goodSpans(n) {
					first := mixedLists(n+3, parts, n)
					dsts, around := laid(first)
					was := bytes.Clone(around)
					want := applied(rows, srcs, dsts, span)
					if e := s.Apply(rows, srcs, dsts, span); e != api.OK {
						t.Fatalf("Apply of %d sources and %d sums of %d bytes, %v: %d", count, parts, n, span, e)
					}
					if !alike(dsts, want) {
						t.Fatalf("Apply of %d sources and %d sums of %d bytes, %v: wrong bytes", count, parts, n, span)
					}
					for r := range dsts {
						copy(dsts[r], first[r])
					}
					if !bytes.Equal(around, was) || !bytes.Equal(factors, wasRows) || !bytes.Equal(origin, wasSrcs) {
						t.Fatalf("Apply of %d sources and %d sums of %d bytes, %v: something beside dsts is changed", count, parts, n, span)
					}
				}
			}
		}
	})
}

// Of each length up to 9 every span from two ahead of the beginning to two beyond the end.
func TestApplyAtEverySpan(t *testing.T) {
	each(t, func(t *testing.T, s *Set) {
		for n := range 10 {
			rows, srcs := mixedLists(1, 2, 3), mixedLists(n, 3, n)
			for from := -2; from <= n+2; from++ {
				for to := -2; to <= n+2; to++ {
					span := api.Span{From: from, To: to}
					dsts := mixedLists(n+40, 2, n)
					want, told := copies(dsts), api.ErrRange
					if 0 <= from && from <= to && to <= n {
						want, told = applied(rows, srcs, dsts, span), api.OK
					}
					if e := s.Apply(rows, srcs, dsts, span); e != told || !alike(dsts, want) {
						t.Fatalf("Apply of %d bytes, %v: %d %x in the place of %d %x", n, span, e, dsts, told, want)
					}
				}
			}
		}
	})
}

// A span cut in two anywhere, either part first: as in one.
func TestApplyInTwoParts(t *testing.T) {
	each(t, func(t *testing.T, s *Set) {
		const n = 45
		rows, srcs, first := mixedLists(2, 3, 4), mixedLists(3, 4, n), mixedLists(4, 3, n)
		for _, span := range goodSpans(n) {
			want := applied(rows, srcs, first, span)
			for cut := span.From; cut <= span.To; cut++ {
				parts := []api.Span{{From: span.From, To: cut}, {From: cut, To: span.To}}
				for _, order := range [][2]int{{0, 1}, {1, 0}} {
					dsts := copies(first)
					if e, f := s.Apply(rows, srcs, dsts, parts[order[0]]), s.Apply(rows, srcs, dsts, parts[order[1]]); e != api.OK || f != api.OK || !alike(dsts, want) {
						t.Fatalf("Apply within %v and %v: %d, %d, or other bytes than within %v", parts[order[0]], parts[order[1]], e, f, span)
					}
				}
			}
		}
	})
}

// There are no rows and no dsts, or no srcs, or neither; and each list nil or empty.
func TestApplyOfNothing(t *testing.T) {
	each(t, func(t *testing.T, s *Set) {
		for _, none := range [][][]byte{nil, {}} {
			for _, also := range [][][]byte{nil, {}} {
				if e := s.Apply(none, also, none, api.Span{}); e != api.OK {
					t.Errorf("Apply of nothing: %d", e)
				}
				if e := s.Apply(none, also, also, api.Span{To: 1}); e != api.ErrRange {
					t.Errorf("Apply of nothing, beyond it: %d", e)
				}
				// The sources' length is the one that the span is within.
				srcs := mixedLists(1, 2, 7)
				if e := s.Apply(none, srcs, also, api.Span{From: 2, To: 7}); e != api.OK || !alike(srcs, mixedLists(1, 2, 7)) {
					t.Errorf("Apply of no rows: %d", e)
				}
				if e := s.Apply(none, srcs, also, api.Span{From: 2, To: 8}); e != api.ErrRange {
					t.Errorf("Apply of no rows, beyond the sources: %d", e)
				}
			}
			for _, row := range [][]byte{nil, {}} {
				dsts := mixedLists(1, 2, 7)
				if e := s.Apply([][]byte{row, row}, none, dsts, api.Span{From: 2, To: 5}); e != api.OK {
					t.Errorf("Apply of no sources: %d", e)
				}
				for r, was := range mixedLists(1, 2, 7) {
					copy(was[2:5], []byte{0, 0, 0})
					if !bytes.Equal(dsts[r], was) {
						t.Errorf("Apply of no sources: %x in the place of %x", dsts[r], was)
					}
				}
				if e := s.Apply([][]byte{row}, none, [][]byte{row}, api.Span{}); e != api.OK {
					t.Errorf("Apply of no sources into no bytes: %d", e)
				}
			}
		}
		// Inner lists without bytes are of one length, nil or not.
		if e := s.Apply([][]byte{{1, 2}, {3, 4}}, [][]byte{nil, {}}, [][]byte{{}, nil}, api.Span{}); e != api.OK {
			t.Errorf("Apply of lists without bytes: %d", e)
		}
	})
}

// The same slice twice in srcs, and twice among rows.
func TestApplyOfTheSameTwice(t *testing.T) {
	each(t, func(t *testing.T, s *Set) {
		for _, n := range []int{1, 8, 41, 5000} {
			src, row := mixed(n, n), []byte{7, 200, 9}
			rows, srcs := [][]byte{row, {1, 2, 3}, row}, [][]byte{src, mixed(n+1, n), src}
			span := api.Span{From: n / 4, To: n}
			dsts := mixedLists(n, 3, n)
			want := applied(rows, srcs, dsts, span)
			if e := s.Apply(rows, srcs, dsts, span); e != api.OK || !alike(dsts, want) {
				t.Errorf("Apply with a source and a row twice, %d bytes: %d, or wrong bytes", n, e)
			}
			if ok, e := s.Agrees(rows, srcs, dsts, span); !ok || e != api.OK {
				t.Errorf("Agrees with a source and a row twice, %d bytes: %v %d", n, ok, e)
			}
			dst := mixed(n, n)
			if e := s.Dot([]byte{5, 5}, [][]byte{src, src}, dst); e != api.OK || !bytes.Equal(dst, make([]byte, n)) {
				t.Errorf("Dot of a source twice, by one factor, %d bytes: %d, or not nought", n, e)
			}
			// Sources that share a part are read alone.
			srcs = [][]byte{src[:n/2], src[n/4 : n/4+n/2], src[n-n/2:]}
			dsts = mixedLists(n, 1, n/2)
			want = applied([][]byte{row}, srcs, dsts, api.Span{To: n / 2})
			if e := s.Apply([][]byte{row}, srcs, dsts, api.Span{To: n / 2}); e != api.OK || !alike(dsts, want) || !bytes.Equal(src, mixed(n, n)) {
				t.Errorf("Apply of sources that share a part, %d bytes: %d, or wrong bytes", n, e)
			}
		}
	})
}

// P9.5

// Within the span Agrees is true of what Apply has made, and of nothing else.
func TestAgreesWithApply(t *testing.T) {
	each(t, func(t *testing.T, s *Set) {
		for _, n := range lengths() {
			for _, count := range []int{0, 1, 3} {
				rows, srcs := mixedLists(n+9, 2, count), mixedLists(n, count, n)
				dsts := applied(rows, srcs, mixedLists(n+3, 2, n), api.Span{To: n})
				was := [][][]byte{copies(rows), copies(srcs), copies(dsts)}
				for _, span := range goodSpans(n) {
					if ok, e := s.Agrees(rows, srcs, dsts, span); !ok || e != api.OK {
						t.Fatalf("Agrees of %d sources of %d bytes, %v: %v %d", count, n, span, ok, e)
					}
				}
				if !alike(rows, was[0]) || !alike(srcs, was[1]) || !alike(dsts, was[2]) {
					t.Fatalf("Agrees of %d sources of %d bytes has changed something", count, n)
				}
			}
		}
	})
}

// One byte turned, at every place of every sum: told just where the span holds the place.
func TestAgreesTellsEachTurnedByte(t *testing.T) {
	each(t, func(t *testing.T, s *Set) {
		const n = 21
		rows, srcs := mixedLists(1, 3, 4), mixedLists(2, 4, n)
		dsts := applied(rows, srcs, mixedLists(3, 3, n), api.Span{To: n})
		for r := range dsts {
			for place := range n {
				was := dsts[r][place]
				for _, turn := range []byte{1, 16, 128, 255} {
					dsts[r][place] = was ^ turn
					for from := 0; from <= n; from++ {
						for to := from; to <= n; to++ {
							ok, e := s.Agrees(rows, srcs, dsts, api.Span{From: from, To: to})
							if want := place < from || place >= to; ok != want || e != api.OK {
								t.Fatalf("Agrees within %d to %d, sum %d turned at %d by %d: %v %d", from, to, r, place, turn, ok, e)
							}
						}
					}
				}
				dsts[r][place] = was
			}
		}
	})
}

// The same of great lengths, the places about the powers of two and the span's ends.
func TestAgreesTellsATurnedByteOfManyBytes(t *testing.T) {
	each(t, func(t *testing.T, s *Set) {
		const n = 20003
		rows, srcs := mixedLists(1, 2, 3), mixedLists(2, 3, n)
		dsts := applied(rows, srcs, mixedLists(3, 2, n), api.Span{To: n})
		for _, span := range []api.Span{{From: 0, To: n}, {From: 1, To: n - 1}, {From: 4095, To: 12288}, {From: 7, To: 4103}, {From: 7, To: 4104}, {From: 5000, To: 5001}, {From: 8192, To: 16384}} {
			for _, place := range []int{0, 1, 6, 7, 8, 4094, 4095, 4096, 4097, 4102, 4103, 4104, 5000, 5001, 8190, 8191, 8192, 8193, 12286, 12287, 12288, 16383, 16384, 20001, 20002} {
				for r := range dsts {
					dsts[r][place] ^= 64
					ok, e := s.Agrees(rows, srcs, dsts, span)
					if want := place < span.From || place >= span.To; ok != want || e != api.OK {
						t.Fatalf("Agrees within %v, sum %d turned at %d: %v %d", span, r, place, ok, e)
					}
					dsts[r][place] ^= 64
				}
			}
		}
	})
}

// A turned source or factor is told too, where it makes another sum.
func TestAgreesTellsATurnedSourceOrFactor(t *testing.T) {
	each(t, func(t *testing.T, s *Set) {
		const n = 33
		rows, srcs := [][]byte{{1, 0, 7, 200}, {3, 0, 5, 255}}, mixedLists(2, 4, n)
		for i := range srcs {
			srcs[i][20] |= 1
		}
		span := api.Span{From: 4, To: 30}
		dsts := applied(rows, srcs, mixedLists(3, 2, n), span)
		for i := range srcs {
			for _, place := range []int{3, 4, 20, 29, 30} {
				srcs[i][place] ^= 2
				ok, e := s.Agrees(rows, srcs, dsts, span)
				if want := i == 1 || place < span.From || place >= span.To; ok != want || e != api.OK {
					t.Fatalf("Agrees, source %d turned at %d: %v %d", i, place, ok, e)
				}
				srcs[i][place] ^= 2
			}
			for r := range rows {
				rows[r][i] ^= 32
				if ok, e := s.Agrees(rows, srcs, dsts, span); ok || e != api.OK {
					t.Fatalf("Agrees, factor %d of row %d turned: %v %d", i, r, ok, e)
				}
				rows[r][i] ^= 32
			}
		}
	})
}

// Wrong bytes in two sums that are nought together are told all the same.
func TestAgreesTellsEachSumByItself(t *testing.T) {
	each(t, func(t *testing.T, s *Set) {
		rows, srcs := mixedLists(1, 2, 3), mixedLists(2, 3, 40)
		dsts := applied(rows, srcs, mixedLists(3, 2, 40), api.Span{To: 40})
		dsts[0][9] ^= 5
		dsts[1][9] ^= 5
		if ok, e := s.Agrees(rows, srcs, dsts, api.Span{To: 40}); ok || e != api.OK {
			t.Errorf("two sums turned alike: %v %d", ok, e)
		}
		if ok, e := s.Agrees([][]byte{rows[1], rows[0]}, srcs, applied(rows, srcs, dsts, api.Span{To: 40}), api.Span{To: 40}); ok || e != api.OK {
			t.Errorf("the rows in another order: %v %d", ok, e)
		}
	})
}

// No places, or no dsts: true, whatever stands there.
func TestAgreesOfNothing(t *testing.T) {
	each(t, func(t *testing.T, s *Set) {
		rows, srcs, dsts := mixedLists(1, 2, 3), mixedLists(2, 3, 9), mixedLists(3, 2, 9)
		for from := range 10 {
			if ok, e := s.Agrees(rows, srcs, dsts, api.Span{From: from, To: from}); !ok || e != api.OK {
				t.Errorf("Agrees of no places, at %d: %v %d", from, ok, e)
			}
		}
		for _, none := range [][][]byte{nil, {}} {
			if ok, e := s.Agrees(none, srcs, none, api.Span{To: 9}); !ok || e != api.OK {
				t.Errorf("Agrees of no sums: %v %d", ok, e)
			}
			if ok, e := s.Agrees(none, none, none, api.Span{}); !ok || e != api.OK {
				t.Errorf("Agrees of nothing: %v %d", ok, e)
			}
			if ok, e := s.Agrees(none, none, none, api.Span{To: 1}); ok || e != api.ErrRange {
				t.Errorf("Agrees of nothing, beyond it: %v %d", ok, e)
			}
			// Without a source the sum is nought.
			for _, row := range [][]byte{nil, {}} {
				if ok, e := s.Agrees([][]byte{row}, none, [][]byte{{0, 0, 1}}, api.Span{To: 2}); !ok || e != api.OK {
					t.Errorf("Agrees of no sources and noughts: %v %d", ok, e)
				}
				if ok, e := s.Agrees([][]byte{row}, none, [][]byte{{0, 0, 1}}, api.Span{To: 3}); ok || e != api.OK {
					t.Errorf("Agrees of no sources and a one: %v %d", ok, e)
				}
			}
		}
	})
}

// Agrees writes nothing, so what is read may share memory in any way.
func TestAgreesOfSharedMemory(t *testing.T) {
	each(t, func(t *testing.T, s *Set) {
		list := mixed(1, 60)
		span := api.Span{To: 60}
		if ok, e := s.Agrees([][]byte{{1, 0}, {0, 1}, {1, 0}}, [][]byte{list, list}, [][]byte{list, list, list}, span); !ok || e != api.OK {
			t.Errorf("Agrees of one slice as source and sum: %v %d", ok, e)
		}
		if ok, e := s.Agrees([][]byte{{1, 1}}, [][]byte{list, list}, [][]byte{list}, span); ok || e != api.OK {
			t.Errorf("Agrees of a slice that is not its own double: %v %d", ok, e)
		}
		if ok, e := s.Agrees([][]byte{{1}}, [][]byte{list[:30]}, [][]byte{list[1:31]}, api.Span{To: 30}); ok || e != api.OK {
			t.Errorf("Agrees of a slice and the one beside it: %v %d", ok, e)
		}
		flat := bytes.Repeat([]byte{6}, 60)
		if ok, e := s.Agrees([][]byte{{1}}, [][]byte{flat[:30]}, [][]byte{flat[7:37]}, api.Span{To: 30}); !ok || e != api.OK {
			t.Errorf("Agrees of like parts of one array: %v %d", ok, e)
		}
		row := []byte{1, 0, 0}
		if ok, e := s.Agrees([][]byte{row}, [][]byte{row, row, row}, [][]byte{row}, api.Span{To: 3}); !ok || e != api.OK || !bytes.Equal(row, []byte{1, 0, 0}) {
			t.Errorf("Agrees of one slice as row, source and sum: %v %d", ok, e)
		}
		if !bytes.Equal(list, mixed(1, 60)) {
			t.Error("Agrees has changed something")
		}
	})
}

// Agrees within a span is Agrees within both parts of it.
func TestAgreesInTwoParts(t *testing.T) {
	each(t, func(t *testing.T, s *Set) {
		const n = 40
		rows, srcs := mixedLists(1, 2, 3), mixedLists(2, 3, n)
		dsts := applied(rows, srcs, mixedLists(3, 2, n), api.Span{To: n})
		dsts[1][17] ^= 9
		for _, span := range goodSpans(n) {
			whole, _ := s.Agrees(rows, srcs, dsts, span)
			for cut := span.From; cut <= span.To; cut++ {
				one, e := s.Agrees(rows, srcs, dsts, api.Span{From: span.From, To: cut})
				two, f := s.Agrees(rows, srcs, dsts, api.Span{From: cut, To: span.To})
				if e != api.OK || f != api.OK || (one && two) != whole {
					t.Fatalf("Agrees within %v cut at %d: %v %d and %v %d, whole %v", span, cut, one, e, two, f, whole)
				}
			}
		}
	})
}

// P9.6

func TestSpreadOfEveryPair(t *testing.T) {
	each(t, func(t *testing.T, s *Set) {
		dsts := mixedLists(1, 256, 256)
		was := copies(dsts)
		if e := s.Spread(everyByte(), everyByte(), dsts, api.Span{To: 256}); e != api.OK {
			t.Fatalf("Spread of every byte: %d", e)
		}
		for c := range dsts {
			for x := range dsts[c] {
				if want := was[c][x] ^ gf8.Mul(byte(c), byte(x)); dsts[c][x] != want {
					t.Fatalf("Spread by %d at %d: %d in the place of %d", c, x, dsts[c][x], want)
				}
			}
		}
	})
}

func TestSpreadAtAllLengths(t *testing.T) {
	each(t, func(t *testing.T, s *Set) {
		for _, n := range lengths() {
			for _, count := range counts() {
				column := mixed(n+count, count)
				diff, origin := piece(4, mixed(n+1, n))
				kept := bytes.Clone(origin)
				for _, span := range goodSpans(n) {
					first := mixedLists(n+3, count, n)
					dsts, around := laid(first)
					was := bytes.Clone(around)
					want := spread(column, diff, dsts, span)
					if e := s.Spread(column, diff, dsts, span); e != api.OK {
						t.Fatalf("Spread to %d lists of %d bytes, %v: %d", count, n, span, e)
					}
					if !alike(dsts, want) {
						t.Fatalf("Spread to %d lists of %d bytes, %v: wrong bytes", count, n, span)
					}
					for r := range dsts {
						copy(dsts[r], first[r])
					}
					if !bytes.Equal(around, was) || !bytes.Equal(origin, kept) || !bytes.Equal(column, mixed(n+count, count)) {
						t.Fatalf("Spread to %d lists of %d bytes, %v: something beside dsts is changed", count, n, span)
					}
				}
			}
		}
	})
}

func TestSpreadAtEverySpan(t *testing.T) {
	each(t, func(t *testing.T, s *Set) {
		for n := range 10 {
			column, diff := []byte{0, 1, 201}, mixed(n, n)
			for from := -2; from <= n+2; from++ {
				for to := -2; to <= n+2; to++ {
					span := api.Span{From: from, To: to}
					dsts := mixedLists(n+40, 3, n)
					want, told := copies(dsts), api.ErrRange
					if 0 <= from && from <= to && to <= n {
						want, told = spread(column, diff, dsts, span), api.OK
					}
					if e := s.Spread(column, diff, dsts, span); e != told || !alike(dsts, want) {
						t.Fatalf("Spread of %d bytes, %v: %d %x in the place of %d %x", n, span, e, dsts, told, want)
					}
				}
			}
		}
	})
}

func TestSpreadInTwoParts(t *testing.T) {
	each(t, func(t *testing.T, s *Set) {
		const n = 45
		column, diff, first := []byte{3, 0, 177}, mixed(3, n), mixedLists(4, 3, n)
		for _, span := range goodSpans(n) {
			want := spread(column, diff, first, span)
			for cut := span.From; cut <= span.To; cut++ {
				dsts := copies(first)
				f := s.Spread(column, diff, dsts, api.Span{From: cut, To: span.To})
				if e := s.Spread(column, diff, dsts, api.Span{From: span.From, To: cut}); e != api.OK || f != api.OK || !alike(dsts, want) {
					t.Fatalf("Spread within %v cut at %d: %d, %d, or other bytes", span, cut, e, f)
				}
			}
		}
	})
}

// What a source's difference is spread to is what Apply makes of the fresh source.
func TestSpreadIsApplyAnew(t *testing.T) {
	each(t, func(t *testing.T, s *Set) {
		for _, n := range []int{1, 7, 8, 40, 4097} {
			rows, srcs := mixedLists(1, 3, 4), mixedLists(2, 4, n)
			dsts := mixedLists(3, 3, n)
			s.Apply(rows, srcs, dsts, api.Span{To: n})
			for i := range srcs {
				for _, span := range goodSpans(n) {
					fresh := bytes.Clone(srcs[i])
					copy(fresh[span.From:span.To], mixed(n+i, span.To-span.From))
					diff := mixed(n+i+1, n) // beside the span it is of no weight
					for place := span.From; place < span.To; place++ {
						diff[place] = fresh[place] ^ srcs[i][place]
					}
					srcs[i] = fresh
					if e := s.Spread(column(rows, i), diff, dsts, span); e != api.OK {
						t.Fatalf("Spread within %v: %d", span, e)
					}
					anew := mixedLists(5, 3, n)
					s.Apply(rows, srcs, anew, api.Span{To: n})
					if ok, e := s.Agrees(rows, srcs, dsts, api.Span{To: n}); !ok || e != api.OK || !alike(dsts, anew) {
						t.Fatalf("Spread of a fresh source %d of %d bytes within %v: other sums than by Apply anew", i, n, span)
					}
				}
			}
		}
	})
}

// No lists to spread to: the span is looked at all the same.
func TestSpreadToNothing(t *testing.T) {
	each(t, func(t *testing.T, s *Set) {
		for _, none := range [][][]byte{nil, {}} {
			for _, column := range [][]byte{nil, {}} {
				diff := mixed(1, 5)
				if e := s.Spread(column, diff, none, api.Span{From: 1, To: 5}); e != api.OK || !bytes.Equal(diff, mixed(1, 5)) {
					t.Errorf("Spread to no lists: %d", e)
				}
				if e := s.Spread(column, diff, none, api.Span{From: 1, To: 6}); e != api.ErrRange {
					t.Errorf("Spread to no lists, beyond the difference: %d", e)
				}
				if e := s.Spread(column, column, none, api.Span{}); e != api.OK {
					t.Errorf("Spread of nothing to no lists: %d", e)
				}
				if e := s.Spread(column, column, none, api.Span{To: 1}); e != api.ErrRange {
					t.Errorf("Spread of nothing to no lists, beyond it: %d", e)
				}
			}
		}
		if e := s.Spread([]byte{1, 2, 3}, nil, [][]byte{nil, {}, mixed(1, 2)[:0]}, api.Span{}); e != api.OK {
			t.Errorf("Spread to lists without bytes: %d", e)
		}
	})
}
