package kernel

import (
	"bytes"
	"slices"
	"sync"
	"testing"
	"unsafe"

	"cullet/api"
)

// P9.7, and what holds for all calls: P1, P8, the rules of the document, and the chapter's section 'Errors'.

// misfit: lists for Apply and Agrees, and their length where they go together.
type misfit struct {
	name             string
	rows, srcs, dsts [][]byte
	length           int
}

// fits: lists that go together.
func fits() []misfit {
	return []misfit{
		{"nothing", nil, nil, nil, 0},
		{"no sums", nil, mixedLists(1, 2, 5), nil, 5},
		{"no sources", [][]byte{nil, {}}, nil, mixedLists(1, 2, 5), 5},
		{"no bytes", mixedLists(1, 2, 2), [][]byte{nil, {}}, [][]byte{{}, nil}, 0},
		{"one and one", mixedLists(1, 1, 1), mixedLists(2, 1, 1), mixedLists(3, 1, 1), 1},
		{"three and two", mixedLists(1, 2, 3), mixedLists(2, 3, 41), mixedLists(3, 2, 41), 41},
		{"many bytes", mixedLists(1, 2, 2), mixedLists(2, 2, 9000), mixedLists(3, 2, 9000), 9000},
	}
}

// misfits: each reason of ErrLens by itself, at the first, a middle and the last of the lists, and some together.
func misfits() []misfit {
	list := []misfit{
		{"more rows than sums", mixedLists(1, 3, 2), mixedLists(2, 2, 9), mixedLists(3, 2, 9), 9},
		{"fewer rows than sums", mixedLists(1, 1, 2), mixedLists(2, 2, 9), mixedLists(3, 2, 9), 9},
		{"no rows, but sums", nil, mixedLists(2, 2, 9), mixedLists(3, 2, 9), 9},
		{"rows, but no sums", mixedLists(1, 2, 2), mixedLists(2, 2, 9), nil, 9},
		{"a row without factors, and nothing else", [][]byte{{}}, nil, nil, 0},
		{"a sum without bytes, and nothing else", nil, nil, [][]byte{nil}, 0},
		{"rows with a factor, but no sources", [][]byte{{1}}, nil, mixedLists(3, 1, 9), 9},
		{"rows without factors, but sources", [][]byte{nil, {}}, mixedLists(2, 2, 9), mixedLists(3, 2, 9), 9},
		{"sources without bytes", mixedLists(1, 2, 2), [][]byte{nil, {}}, mixedLists(3, 2, 9), 9},
		{"sums without bytes", mixedLists(1, 2, 2), mixedLists(2, 2, 9), [][]byte{nil, {}}, 9},
		{"sources and sums of unlike lengths", mixedLists(1, 2, 2), mixedLists(2, 2, 9), mixedLists(3, 2, 10), 9},
		{"sources of unlike lengths, no sums", nil, [][]byte{{1, 2}, {3}}, nil, 2},
		{"sums of unlike lengths, no sources", [][]byte{nil, nil}, nil, [][]byte{{1, 2}, {3}}, 2},
		{"as many factors in all, but in unlike rows", [][]byte{{1}, {1, 2, 3}}, mixedLists(2, 2, 9), mixedLists(3, 2, 9), 9},
	}
	for i := range 3 {
		for _, n := range []int{0, 8, 10} {
			srcs, dsts, rows := mixedLists(2, 3, 9), mixedLists(3, 3, 9), mixedLists(1, 3, 3)
			srcs[i], dsts[i] = mixed(4, n), mixed(5, n)
			list = append(list, misfit{"one source of another length", mixedLists(1, 3, 3), srcs, mixedLists(3, 3, 9), 9})
			list = append(list, misfit{"one sum of another length", mixedLists(1, 3, 3), mixedLists(2, 3, 9), dsts, 9})
			rows[i] = mixed(6, n)
			list = append(list, misfit{"one row of another length", rows, mixedLists(2, 3, 9), mixedLists(3, 3, 9), 9})
			list = append(list, misfit{"all of it wrong", rows[:2], srcs, dsts, 9})
		}
	}
	return list
}

// entry: where a slice begins, its length and its capacity.
type entry struct {
	first          *byte
	length, spared int
}

// entries: what a list of slices holds, its spare room too.
func entries(list [][]byte) []entry {
	var all []entry
	for _, slice := range list[:cap(list)] {
		all = append(all, entry{unsafe.SliceData(slice), len(slice), cap(slice)})
	}
	return all
}

// watch: what the lists hold now, with their spare room and that of their slices; the function that it answers says whether all is so still.
func watch(lists ...[][]byte) func() bool {
	var heads [][]entry
	var contents [][]byte
	for _, list := range lists {
		heads = append(heads, entries(list))
		for _, slice := range list[:cap(list)] {
			contents = append(contents, bytes.Clone(slice[:cap(slice)]))
		}
	}
	return func() bool {
		at := 0
		for i, list := range lists {
			if !slices.Equal(entries(list), heads[i]) {
				return false
			}
			for _, slice := range list[:cap(list)] {
				if !bytes.Equal(slice[:cap(slice)], contents[at]) {
					return false
				}
				at++
			}
		}
		return true
	}
}

// roomy: the same lists, in a list with two more slices in its spare room, each slice with spare room.
func roomy(lists [][]byte) [][]byte {
	all := make([][]byte, 0, len(lists)+2)
	for i, list := range lists {
		part, _ := piece(i%3, list)
		all = append(all, part)
	}
	copy(all[len(all):cap(all)], mixedLists(5, 2, 4))
	return all
}

// ErrNil ahead of ErrLens ahead of ErrRange, in Apply and Agrees; nothing is changed, and false stands beside each error.
func TestErrorsOfApplyAndAgrees(t *testing.T) {
	each(t, func(t *testing.T, s *Set) {
		check := func(name string, set *Set, m misfit, span api.Span, want api.Errno) {
			t.Helper()
			rows, srcs, dsts := roomy(m.rows), roomy(m.srcs), roomy(m.dsts)
			asItWas := watch(rows, srcs, dsts)
			if e := set.Apply(rows, srcs, dsts, span); e != want {
				t.Errorf("Apply, %s, %s, %v: %d in the place of %d", name, m.name, span, e, want)
			}
			if ok, e := set.Agrees(rows, srcs, dsts, span); ok || e != want {
				t.Errorf("Agrees, %s, %s, %v: %v %d in the place of %d", name, m.name, span, ok, e, want)
			}
			if !asItWas() {
				t.Errorf("%s, %s, %v: something is changed beside an error", name, m.name, span)
			}
		}
		for _, m := range misfits() {
			for _, span := range append(goodSpans(m.length), badSpans(m.length)...) {
				check("a nil set", nil, m, span, api.ErrNil)
				check("a set", s, m, span, api.ErrLens)
			}
		}
		for _, m := range fits() {
			for _, span := range badSpans(m.length) {
				check("a nil set", nil, m, span, api.ErrNil)
				check("a set", s, m, span, api.ErrRange)
			}
			for _, span := range goodSpans(m.length) {
				check("a nil set", nil, m, span, api.ErrNil)
			}
		}
	})
}

// What goes together is told so, so that the lists of the test above are wrong for their reasons alone.
func TestNoErrorWhereAllFits(t *testing.T) {
	each(t, func(t *testing.T, s *Set) {
		for _, m := range fits() {
			for _, span := range goodSpans(m.length) {
				rows, srcs, dsts := roomy(m.rows), roomy(m.srcs), roomy(m.dsts)
				asItWas, heads := watch(rows, srcs), entries(dsts)
				want := applied(rows, srcs, dsts, span)
				if e := s.Apply(rows, srcs, dsts, span); e != api.OK || !alike(dsts, want) {
					t.Errorf("Apply, %s, %v: %d, or wrong bytes", m.name, span, e)
				}
				all := watch(dsts)
				if ok, e := s.Agrees(rows, srcs, dsts, span); !ok || e != api.OK {
					t.Errorf("Agrees, %s, %v: %v %d", m.name, span, ok, e)
				}
				if !asItWas() || !all() || !slices.Equal(entries(dsts), heads) {
					t.Errorf("%s, %v: rows, srcs or an entry of dsts is changed", m.name, span)
				}
			}
		}
	})
}

func TestErrorsOfSpread(t *testing.T) {
	type pair struct {
		name         string
		column, diff []byte
		dsts         [][]byte
		want         api.Errno // of a span that is within the difference
	}
	pairs := []pair{
		{"all fits", mixed(1, 2), mixed(2, 9), mixedLists(3, 2, 9), api.OK},
		{"nothing", nil, nil, nil, api.OK},
		{"no lists", nil, mixed(2, 9), nil, api.OK},
		{"a factor too many", mixed(1, 3), mixed(2, 9), mixedLists(3, 2, 9), api.ErrLens},
		{"a factor too few", mixed(1, 1), mixed(2, 9), mixedLists(3, 2, 9), api.ErrLens},
		{"no factors", nil, mixed(2, 9), mixedLists(3, 2, 9), api.ErrLens},
		{"factors alone", mixed(1, 2), mixed(2, 9), nil, api.ErrLens},
		{"a factor and nothing else", mixed(1, 1), nil, nil, api.ErrLens},
		{"no difference", mixed(1, 2), nil, mixedLists(3, 2, 9), api.ErrLens},
		{"lists without bytes", mixed(1, 2), mixed(2, 9), [][]byte{nil, {}}, api.ErrLens},
		{"a longer difference", mixed(1, 2), mixed(2, 10), mixedLists(3, 2, 9), api.ErrLens},
		{"a shorter difference", mixed(1, 2), mixed(2, 8), mixedLists(3, 2, 9), api.ErrLens},
		{"a list and no factor, of other lengths", nil, mixed(2, 8), mixedLists(3, 1, 9), api.ErrLens},
	}
	for i := range 3 {
		for _, n := range []int{0, 8, 10} {
			dsts := mixedLists(3, 3, 9)
			dsts[i] = mixed(4, n)
			pairs = append(pairs, pair{"one list of another length", mixed(1, 3), mixed(2, 9), dsts, api.ErrLens})
		}
	}
	each(t, func(t *testing.T, s *Set) {
		for _, p := range pairs {
			check := func(name string, set *Set, span api.Span, want api.Errno) {
				t.Helper()
				read, dsts := roomy([][]byte{p.column, p.diff}), roomy(p.dsts)
				asItWas, sumsToo := watch(read), watch(dsts)
				if e := set.Spread(read[0], read[1], dsts, span); e != want {
					t.Errorf("Spread, %s, %s, %v: %d in the place of %d", name, p.name, span, e, want)
				}
				if !asItWas() || want != api.OK && !sumsToo() {
					t.Errorf("Spread, %s, %s, %v: something is changed that must stay", name, p.name, span)
				}
			}
			for _, span := range goodSpans(len(p.diff)) {
				check("a nil set", nil, span, api.ErrNil)
				check("a set", s, span, p.want)
			}
			for _, span := range badSpans(len(p.diff)) {
				want := p.want
				if want == api.OK {
					want = api.ErrRange
				}
				check("a nil set", nil, span, api.ErrNil)
				check("a set", s, span, want)
			}
		}
	})
}

func TestErrorsOfDot(t *testing.T) {
	each(t, func(t *testing.T, s *Set) {
		check := func(name string, row []byte, srcs [][]byte, dst []byte) {
			t.Helper()
			lists, sources := roomy([][]byte{row, dst}), roomy(srcs)
			asItWas := watch(lists, sources)
			var none *Set
			if e := none.Dot(lists[0], sources, lists[1]); e != api.ErrNil {
				t.Errorf("Dot of a nil set, %s: %d", name, e)
			}
			if e := s.Dot(lists[0], sources, lists[1]); e != api.ErrLens {
				t.Errorf("Dot, %s: %d", name, e)
			}
			if !asItWas() {
				t.Errorf("Dot, %s: something is changed beside an error", name)
			}
		}
		check("a factor too many", mixed(1, 4), mixedLists(2, 3, 9), mixed(3, 9))
		check("a factor too few", mixed(1, 2), mixedLists(2, 3, 9), mixed(3, 9))
		check("no factors", nil, mixedLists(2, 3, 9), mixed(3, 9))
		check("no sources", mixed(1, 1), nil, mixed(3, 9))
		check("a factor, and nothing else", mixed(1, 1), nil, nil)
		check("a source without bytes, and nothing else", nil, [][]byte{nil}, nil)
		check("no bytes for the sum", mixed(1, 3), mixedLists(2, 3, 9), nil)
		check("sources without bytes", mixed(1, 2), [][]byte{nil, {}}, mixed(3, 9))
		check("a longer sum", mixed(1, 3), mixedLists(2, 3, 9), mixed(3, 10))
		check("a shorter sum", mixed(1, 3), mixedLists(2, 3, 9), mixed(3, 8))
		for i := range 3 {
			for _, n := range []int{0, 8, 10} {
				srcs := mixedLists(2, 3, 9)
				srcs[i] = mixed(4, n)
				check("one source of another length", mixed(1, 3), srcs, mixed(3, 9))
			}
		}
	})
}

func TestErrorsOfTwoSlices(t *testing.T) {
	pairs := [][2]int{{0, 0}, {5, 5}, {0, 1}, {1, 0}, {1, 2}, {2, 1}, {7, 8}, {8, 7}, {8, 16}, {63, 64}, {300, 0}, {0, 300}, {4096, 4095}}
	each(t, func(t *testing.T, s *Set) {
		for _, f := range callsOfTwo() {
			for _, c := range factors() {
				for _, p := range pairs {
					lists := roomy([][]byte{mixed(1, p[0]), mixed(2, p[1])})
					asItWas := watch(lists)
					if f.name != "Xor" {
						if e := f.run(nil, c, lists[0], lists[1]); e != api.ErrNil {
							t.Errorf("%s by %d of a nil set, %v bytes: %d", f.name, c, p, e)
						}
					}
					if p[0] != p[1] {
						if e := f.run(s, c, lists[0], lists[1]); e != api.ErrLens {
							t.Errorf("%s by %d of %v bytes: %d", f.name, c, p, e)
						}
					}
					if !asItWas() {
						t.Errorf("%s by %d of %v bytes has written beside an error", f.name, c, p)
					}
				}
			}
			if e := f.run(s, 3, nil, []byte{1}); e != api.ErrLens {
				t.Errorf("%s of a byte into none: %d", f.name, e)
			}
			if e := f.run(s, 3, []byte{1}, nil); e != api.ErrLens {
				t.Errorf("%s of none into a byte: %d", f.name, e)
			}
			array := mixed(9, 40)
			if e := f.run(s, 3, array[5:31], array[5:30]); e != api.ErrLens || !bytes.Equal(array, mixed(9, 40)) {
				t.Errorf("%s of unlike parts of one array: %d, or bytes are written", f.name, e)
			}
		}
	})
}

// Slices that share memory in another way: the call ends with OK, and no byte outside of them is changed.
func TestSlicesThatShareMemory(t *testing.T) {
	each(t, func(t *testing.T, s *Set) {
		const n = 23
		for shift := -n - 2; shift <= n+2; shift++ {
			at := 60
			check := func(name string, run func(array, one, two []byte) api.Errno) {
				t.Helper()
				array := mixed(shift+100, 160)
				was := bytes.Clone(array)
				endsQuietly(t, name, func() {
					if e := run(array, array[at:at+n], array[at+shift:at+shift+n]); e != api.OK {
						t.Errorf("%s of slices that begin %d bytes from one another: %d", name, shift, e)
					}
				})
				for i := range array {
					inside := i >= at && i < at+n || i >= at+shift && i < at+shift+n
					if !inside && array[i] != was[i] {
						t.Errorf("%s of slices that begin %d bytes from one another: a byte outside of them is changed", name, shift)
						return
					}
				}
			}
			for _, f := range callsOfTwo() {
				check(f.name, func(array, one, two []byte) api.Errno { return f.run(s, 7, one, two) })
			}
			check("Dot", func(array, one, two []byte) api.Errno { return s.Dot([]byte{3, 5, 7}, [][]byte{one, two, one}, two) })
			check("Dot, its row too", func(array, one, two []byte) api.Errno {
				return s.Dot(two[:2], [][]byte{one, two}, one)
			})
			for _, span := range goodSpans(n) {
				check("Apply", func(array, one, two []byte) api.Errno {
					return s.Apply([][]byte{{3, 5}, {7, 9}}, [][]byte{one, two}, [][]byte{two, one}, span)
				})
				check("Apply, sums that share", func(array, one, two []byte) api.Errno {
					return s.Apply([][]byte{{3, 5}, {7, 9}, {1, 1}}, mixedLists(1, 2, n), [][]byte{one, two, one}, span)
				})
				check("Apply, its rows too", func(array, one, two []byte) api.Errno {
					return s.Apply([][]byte{one[:1], two[:1]}, [][]byte{mixed(1, n)}, [][]byte{one, two}, span)
				})
				check("Apply, one list for all", func(array, one, two []byte) api.Errno {
					lists := [][]byte{one[:2], two[:2]}
					return s.Apply(lists, lists, lists, api.Span{From: span.From % 2, To: 2})
				})
				check("Spread", func(array, one, two []byte) api.Errno {
					return s.Spread([]byte{3, 5, 9}, one, [][]byte{two, one, two}, span)
				})
				check("Spread, its column too", func(array, one, two []byte) api.Errno {
					return s.Spread(two[:2], one, [][]byte{two, one}, span)
				})
			}
		}
	})
}

// Sources, factors and sums one behind another in one array: each lies in the others' spare room, and that is no sharing.
func TestPartsOfOneArray(t *testing.T) {
	each(t, func(t *testing.T, s *Set) {
		for _, n := range []int{3, 8, 21, 40} {
			for _, gap := range []int{0, 3} {
				array := mixed(n, 9*(n+gap))
				part := func(i, length int) []byte { return array[i*(n+gap) : i*(n+gap)+length] }
				rows := [][]byte{part(0, 3), part(5, 3)}
				dsts := [][]byte{part(1, n), part(7, n)}
				srcs := [][]byte{part(2, n), part(6, n), part(8, n)}
				for _, span := range goodSpans(n) {
					want := bytes.Clone(array)
					for r, left := range applied(rows, srcs, dsts, span) {
						copy(want[[]int{1, 7}[r]*(n+gap):], left)
					}
					if e := s.Apply(rows, srcs, dsts, span); e != api.OK || !bytes.Equal(array, want) {
						t.Fatalf("Apply of parts of one array, %d bytes each, %v: %d, or wrong bytes", n, span, e)
					}
					for r, left := range spread(rows[1][:2], srcs[2], dsts, span) {
						copy(want[[]int{1, 7}[r]*(n+gap):], left)
					}
					if e := s.Spread(rows[1][:2], srcs[2], dsts, span); e != api.OK || !bytes.Equal(array, want) {
						t.Fatalf("Spread of parts of one array, %d bytes each, %v: %d, or wrong bytes", n, span, e)
					}
					copy(want[7*(n+gap):], applied(rows[1:], srcs, dsts[1:], api.Span{To: n})[0])
					if e := s.Dot(rows[1], srcs, dsts[1]); e != api.OK || !bytes.Equal(array, want) {
						t.Fatalf("Dot of parts of one array, %d bytes each: %d, or wrong bytes", n, e)
					}
				}
			}
		}
	})
}

// A nil set at every call, whatever it is given.
func TestNilSet(t *testing.T) {
	var none *Set
	lists := [][][]byte{nil, {}, {nil}, {{}}, {{1}}, {{1, 2}, {3}}, mixedLists(1, 2, 2)}
	spans := append(goodSpans(2), badSpans(2)...)
	for _, a := range lists {
		for _, b := range lists {
			for _, c := range lists {
				for _, span := range spans {
					asItWas := watch(a, b, c)
					if e := none.Apply(a, b, c, span); e != api.ErrNil {
						t.Fatalf("Apply of a nil set: %d", e)
					}
					if ok, e := none.Agrees(a, b, c, span); ok || e != api.ErrNil {
						t.Fatalf("Agrees of a nil set: %v %d", ok, e)
					}
					for _, slice := range append(slices.Clone(a), nil, []byte{1, 2}) {
						if e := none.Spread(slice, slice, c, span); e != api.ErrNil {
							t.Fatalf("Spread of a nil set: %d", e)
						}
						if e := none.Dot(slice, b, slice); e != api.ErrNil {
							t.Fatalf("Dot of a nil set: %d", e)
						}
						if e, f := none.Mul(2, slice, nil), none.MulAdd(2, slice, []byte{7}); e != api.ErrNil || f != api.ErrNil {
							t.Fatalf("Mul and MulAdd of a nil set: %d %d", e, f)
						}
					}
					if !asItWas() {
						t.Fatal("a nil set's call has changed something")
					}
				}
			}
		}
	}
	if none.Backend() != -1 {
		t.Errorf("Backend of a nil set: %d", none.Backend())
	}
}

// Of a zero struct, and of a copy, only that their calls end is promised.
func TestSetsMadeOtherwise(t *testing.T) {
	made, _ := New(api.Sliced)
	copied := *made
	for _, s := range []*Set{{}, &copied, {chosen{backend: api.Nibble}}} {
		for _, m := range append(fits(), misfits()...) {
			for _, span := range append(goodSpans(m.length), badSpans(m.length)...) {
				endsQuietly(t, "a call of a set made otherwise", func() {
					s.Backend()
					s.Mul(3, mixed(1, 5), mixed(2, 5))
					s.MulAdd(3, mixed(1, 5), mixed(2, 6))
					s.Apply(copies(m.rows), copies(m.srcs), copies(m.dsts), span)
					s.Agrees(m.rows, m.srcs, m.dsts, span)
					s.Dot(mixed(1, len(m.srcs)), copies(m.srcs), mixed(2, m.length))
					s.Spread(mixed(1, len(m.dsts)), mixed(2, m.length), copies(m.dsts), span)
				})
			}
		}
	}
}

// Nothing is kept: the same lists, written over, are asked again, with errors and other calls between.
func TestNothingIsKept(t *testing.T) {
	each(t, func(t *testing.T, s *Set) {
		const n = 37
		rows, srcs, dsts := mixedLists(1, 2, 3), mixedLists(2, 3, n), mixedLists(3, 2, n)
		span := api.Span{From: 2, To: 35}
		for round := range 60 {
			for i := range rows {
				copy(rows[i], mixed(round+i, 3))
				copy(dsts[i], mixed(round+i+70, n))
			}
			for i := range srcs {
				copy(srcs[i], mixed(round+i+140, n))
			}
			if round%5 == 0 {
				srcs[round%3], rows[round%2], dsts[1-round%2] = mixed(round, n), mixed(round+1, 3), mixed(round+2, n)
			}
			want := applied(rows, srcs, dsts, span)
			if e := s.Apply(rows, srcs, dsts, span); e != api.OK || !alike(dsts, want) {
				t.Fatalf("Apply in round %d: %d, or wrong bytes", round, e)
			}
			if ok, e := s.Agrees(rows, srcs, dsts, span); !ok || e != api.OK {
				t.Fatalf("Agrees in round %d: %v %d", round, ok, e)
			}
			dsts[1][9] ^= 1
			if ok, e := s.Agrees(rows, srcs, dsts, span); ok || e != api.OK {
				t.Fatalf("Agrees in round %d of a turned byte: %v %d", round, ok, e)
			}
			s.Apply(rows, srcs, dsts, api.Span{From: 2, To: 99})
			s.Apply(rows[:1], srcs, dsts, span)
			s.Agrees(rows, srcs[:1], dsts, span)
			want = spread(rows[0][:2], srcs[1], dsts, span)
			if e := s.Spread(rows[0][:2], srcs[1], dsts, span); e != api.OK || !alike(dsts, want) {
				t.Fatalf("Spread in round %d: %d, or wrong bytes", round, e)
			}
			if e := s.Dot(rows[1], srcs, dsts[0]); e != api.OK || !bytes.Equal(dsts[0], applied(rows[1:], srcs, dsts[:1], api.Span{To: n})[0]) {
				t.Fatalf("Dot in round %d: %d, or wrong bytes", round, e)
			}
			for _, f := range callsOfTwo() {
				left := f.behind(rows[0][1], dsts[0], srcs[0])
				if e := f.run(s, rows[0][1], dsts[0], srcs[0]); e != api.OK || !bytes.Equal(dsts[0], left) {
					t.Fatalf("%s in round %d: %d, or wrong bytes", f.name, round, e)
				}
			}
		}
	})
}

// What was handed in is the caller's behind the call: nothing that is done to it is seen, and nothing is done to it.
func TestArgumentsAreNotKept(t *testing.T) {
	each(t, func(t *testing.T, s *Set) {
		const n = 50
		rows, srcs, dsts := mixedLists(1, 2, 3), mixedLists(2, 3, n), mixedLists(3, 2, n)
		s.Apply(rows, srcs, dsts, api.Span{To: n})
		left := copies(dsts)
		for i := range srcs {
			clear(srcs[i])
		}
		for i := range rows {
			clear(rows[i])
		}
		asItWas := watch(rows, srcs, dsts)
		other := mixedLists(5, 2, n)
		s.Apply(mixedLists(6, 2, 3), mixedLists(7, 3, n), other, api.Span{To: n})
		s.Agrees(mixedLists(6, 2, 3), mixedLists(7, 3, n), other, api.Span{To: n})
		s.Spread(mixed(1, 2), mixed(2, n), other, api.Span{To: n})
		s.Dot(mixed(1, 3), mixedLists(7, 3, n), other[0])
		s.Mul(3, other[0], other[1])
		if !asItWas() || !alike(dsts, left) {
			t.Error("a later call has changed an earlier one's lists")
		}
	})
}

// Calls at one time on one set: all kinds, from the same sources, within spans of the same sums that lie beside one another.
func TestCompany(t *testing.T) {
	each(t, func(t *testing.T, s *Set) {
		const parts, width = 16, 613
		const n = parts * width
		rows, srcs := mixedLists(1, 3, 4), mixedLists(2, 4, n)
		made, spreaded := mixedLists(3, 3, n), mixedLists(4, 3, n)
		right := applied(rows, srcs, made, api.Span{To: n})
		wantSpread := spread(rows[2][:3], srcs[1], spreaded, api.Span{To: n})
		doubles, dots := mixedLists(5, 2*parts, n), mixedLists(6, parts, n)
		wantDoubles, asItWas := copies(doubles), watch(rows, srcs, right)
		var all sync.WaitGroup
		start := func(name string, run func() (bool, api.Errno)) {
			all.Add(1)
			go func() {
				defer all.Done()
				if ok, e := run(); !ok || e != api.OK {
					t.Errorf("%s in company: %v %d", name, ok, e)
				}
			}()
		}
		for p := range parts {
			span := api.Span{From: p * width, To: (p + 1) * width}
			c := byte(16*p + 5)
			start("Apply", func() (bool, api.Errno) { return true, s.Apply(rows, srcs, made, span) })
			start("Agrees", func() (bool, api.Errno) { return s.Agrees(rows, srcs, right, span) })
			start("Spread", func() (bool, api.Errno) { return true, s.Spread(rows[2][:3], srcs[1], spreaded, span) })
			start("Dot", func() (bool, api.Errno) { return true, s.Dot(rows[p%3], srcs, dots[p]) })
			for i, f := range bothCalls() {
				start(f.name, func() (bool, api.Errno) { return true, f.run(s, c, doubles[2*p+i], srcs[2]) })
				wantDoubles[2*p+i] = f.behind(c, wantDoubles[2*p+i], srcs[2])
			}
		}
		all.Wait()
		if !alike(made, right) || !alike(spreaded, wantSpread) || !alike(doubles, wantDoubles) {
			t.Error("Apply, Spread, Mul or MulAdd in company: wrong bytes")
		}
		for p, dot := range dots {
			if !bytes.Equal(dot, right[p%3]) {
				t.Errorf("Dot in company: wrong bytes of the part %d", p)
			}
		}
		if !asItWas() {
			t.Error("what all read is changed")
		}
	})
}

// A call within a span reads and writes no byte beside it: others may be about them at that time (the race detector's test).
func TestSpansOfTheSameLists(t *testing.T) {
	each(t, func(t *testing.T, s *Set) {
		const n = 90
		rows, srcs, dsts := mixedLists(1, 2, 3), mixedLists(2, 3, n), mixedLists(3, 2, n)
		var all sync.WaitGroup
		for p := range 9 {
			all.Add(1)
			go func() {
				defer all.Done()
				span := api.Span{From: 10 * p, To: 10*p + 10}
				for i, src := range srcs {
					copy(src[span.From:span.To], mixed(p+i, 10))
				}
				s.Apply(rows, srcs, dsts, span)
				if ok, e := s.Agrees(rows, srcs, dsts, span); !ok || e != api.OK {
					t.Errorf("Agrees within %v: %v %d", span, ok, e)
				}
				s.Spread(rows[0][:2], srcs[0], dsts, span)
			}()
		}
		all.Wait()
		want := spread(rows[0][:2], srcs[0], applied(rows, srcs, dsts, api.Span{To: n}), api.Span{To: n})
		if !alike(dsts, want) {
			t.Error("Apply and Spread within spans at one time: wrong bytes")
		}
	})
}
