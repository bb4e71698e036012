package sliced

import (
	"bytes"
	"testing"

	"cullet/api"
	"cullet/gf8"
)

// P7.1

func TestAllFactorsAtAllBytes(t *testing.T) {
	k := New()
	src := everyByte()
	for _, f := range bothCalls() {
		for _, c := range everyByte() {
			dst := mixed(int(c), len(src))
			want := f.behind(c, dst, src)
			if e := f.run(k, c, dst, src); e != api.OK || !bytes.Equal(dst, want) {
				t.Fatalf("%s by %d: %d, %v in the place of %v", f.name, c, e, dst, want)
			}
		}
	}
}

// Each byte is a tail of its own here, and so never part of a whole word.
func TestAllFactorsAtAllSingleBytes(t *testing.T) {
	k := New()
	for _, f := range bothCalls() {
		for _, c := range everyByte() {
			for _, x := range everyByte() {
				dst := []byte{x ^ c ^ 0x5A}
				want := f.behind(c, dst, []byte{x})
				if e := f.run(k, c, dst, []byte{x}); e != api.OK || !bytes.Equal(dst, want) {
					t.Fatalf("%s by %d of the byte %d: %d, %v in the place of %v", f.name, c, x, e, dst, want)
				}
			}
		}
	}
}

// A list of 256 + 7 bytes, so that there are products in whole words and in the tail.
func TestAllProductsOfLayer2(t *testing.T) {
	k := New()
	for _, c := range everyByte() {
		src := append(everyByte(), mixed(int(c), 7)...)
		dst, sum := mixed(6, len(src)), mixed(7, len(src))
		was := bytes.Clone(sum)
		if e := k.Mul(c, dst, src); e != api.OK {
			t.Fatalf("Mul by %d: %d", c, e)
		}
		if e := k.MulAdd(c, sum, src); e != api.OK {
			t.Fatalf("MulAdd by %d: %d", c, e)
		}
		for i, x := range src {
			want := gf8.Mul(c, x)
			if dst[i] != want || sum[i] != was[i]^want {
				t.Fatalf("%d times %d: Mul %d, MulAdd of %d %d in the place of %d", c, x, dst[i], was[i], sum[i], want)
			}
		}
	}
}

func TestAllLengths(t *testing.T) {
	k := New()
	for _, f := range bothCalls() {
		for _, c := range factors() {
			for _, n := range lengths() {
				dst, src := mixed(n, n), mixed(n+1, n)
				want := f.behind(c, dst, src)
				if e := f.run(k, c, dst, src); e != api.OK || !bytes.Equal(dst, want) {
					t.Errorf("%s by %d of %d bytes: %d, or wrong bytes", f.name, c, n, e)
				}
			}
		}
	}
}

func TestNoughtAndOne(t *testing.T) {
	k := New()
	for _, n := range lengths() {
		src, dst := mixed(n+3, n), mixed(n+4, n)
		was, nought := bytes.Clone(dst), make([]byte, n)
		if e := k.MulAdd(0, dst, src); e != api.OK || !bytes.Equal(dst, was) {
			t.Errorf("MulAdd by 0 of %d bytes: %d, or dst is changed", n, e)
		}
		if e := k.Mul(1, dst, src); e != api.OK || !bytes.Equal(dst, src) {
			t.Errorf("Mul by 1 of %d bytes: %d, or dst is not src", n, e)
		}
		if e := k.MulAdd(1, dst, src); e != api.OK || !bytes.Equal(dst, nought) {
			t.Errorf("MulAdd by 1 of %d bytes like dst's: %d, or not nought", n, e)
		}
		if e := k.Mul(0, was, src); e != api.OK || !bytes.Equal(was, nought) {
			t.Errorf("Mul by 0 of %d bytes: %d, or not nought", n, e)
		}
	}
}

func TestNoBytes(t *testing.T) {
	k := New()
	room := mixed(2, 12)
	was := bytes.Clone(room)
	without := [][]byte{nil, {}, make([]byte, 0, 15), room[:0], room[1:1], room[12:]}
	for _, f := range bothCalls() {
		for _, c := range factors() {
			for i, dst := range without {
				for j, src := range without {
					if e := f.run(k, c, dst, src); e != api.OK {
						t.Errorf("%s by %d of no bytes, kinds %d and %d: %d", f.name, c, i, j, e)
					}
				}
			}
		}
	}
	if !bytes.Equal(room, was) {
		t.Errorf("bytes behind the lists are changed: %v", room)
	}
	for _, list := range without[:3] {
		if !bytes.Equal(list[:cap(list)], make([]byte, cap(list))) {
			t.Errorf("spare room is written: %v", list[:cap(list)])
		}
	}
}

// The two lists begin at every pair of places of a word, and their neighbours are kept.
func TestPiecesOfGreaterArrays(t *testing.T) {
	k := New()
	for _, f := range bothCalls() {
		for _, n := range []int{0, 1, 3, 7, 8, 9, 15, 16, 23, 64, 70} {
			for places := range 81 {
				c := byte(3*places + n)
				dst, around := piece(places/9, mixed(n+2, n))
				src, origin := piece(places%9, mixed(n+3, n))
				want, kept := bytes.Clone(around), bytes.Clone(origin)
				copy(want[places/9:], f.behind(c, dst, src))
				if e := f.run(k, c, dst, src); e != api.OK || !bytes.Equal(around, want) || !bytes.Equal(origin, kept) {
					t.Errorf("%s by %d of %d bytes at %d and %d of greater arrays: %d, or wrong bytes", f.name, c, n, places/9, places%9, e)
				}
			}
		}
	}
}

// Neighbours in one array share no byte, so each is as if it were alone, though one lies in the other's spare room.
func TestNeighbours(t *testing.T) {
	k := New()
	for _, f := range bothCalls() {
		for _, c := range factors() {
			for _, n := range []int{1, 5, 7, 8, 9, 100} {
				for _, turned := range []bool{false, true} {
					array := mixed(n, 2*n+6)
					to, from := 3, 3+n
					if turned {
						to, from = from, to
					}
					dst, src := array[to:to+n], array[from:from+n]
					want := bytes.Clone(array)
					copy(want[to:], f.behind(c, dst, src))
					if e := f.run(k, c, dst, src); e != api.OK || !bytes.Equal(array, want) {
						t.Errorf("%s by %d of %d bytes beside each other: %d, %v in the place of %v", f.name, c, n, e, array, want)
					}
				}
			}
		}
	}
}

// P7.2

func TestSameBytes(t *testing.T) {
	k := New()
	for _, f := range bothCalls() {
		for _, c := range everyByte() {
			for _, n := range []int{1, 2, 7, 8, 9, 15, 16, 17, 64, 257, 1000} {
				at := int(c) % 9
				middle, array := piece(at, mixed(n, n))
				want := bytes.Clone(array)
				copy(want[at:], f.behind(c, middle, middle))
				if e := f.run(k, c, middle, array[at:at+n:at+n]); e != api.OK || !bytes.Equal(array, want) {
					t.Errorf("%s by %d of the same %d bytes: %d, or wrong bytes", f.name, c, n, e)
				}
			}
		}
	}
}

// Said once more in the chapter's words: Mul makes c times of the list, MulAdd c + 1 times.
func TestSameBytesByLayer2(t *testing.T) {
	k := New()
	for _, c := range everyByte() {
		times, more := append(everyByte(), 1, 2, 3), append(everyByte(), 1, 2, 3)
		was := bytes.Clone(times)
		if e := k.Mul(c, times, times); e != api.OK {
			t.Fatalf("Mul by %d: %d", c, e)
		}
		if e := k.MulAdd(c, more, more); e != api.OK {
			t.Fatalf("MulAdd by %d: %d", c, e)
		}
		for i, x := range was {
			if times[i] != gf8.Mul(c, x) || more[i] != gf8.Mul(c^1, x) {
				t.Fatalf("the list is dst and src, %d at %d: Mul by %d %d, MulAdd %d", x, i, c, times[i], more[i])
			}
		}
	}
}

// Of slices that share some bytes the answer is promised, and the bytes outside both.
func TestPartlyShared(t *testing.T) {
	k := New()
	for _, f := range bothCalls() {
		for _, c := range factors() {
			for _, n := range []int{2, 3, 7, 8, 9, 17, 70, 300} {
				for _, by := range []int{1, n / 2, n - 1} {
					array := mixed(n+by, n+by+20)
					was := bytes.Clone(array)
					lower, upper := array[10:10+n], array[10+by:10+by+n]
					up := f.run(k, c, upper, lower)
					down := f.run(k, c, lower, upper)
					if up != api.OK || down != api.OK || !bytes.Equal(array[:10], was[:10]) || !bytes.Equal(array[10+by+n:], was[10+by+n:]) {
						t.Errorf("%s by %d of %d bytes, %d apart: %d and %d, or a byte outside is changed", f.name, c, n, by, up, down)
					}
				}
			}
		}
	}
}

// P7.3

// All products in each of the eight places, first alone in the word, then among other bytes.
func TestWordInEachPlace(t *testing.T) {
	for _, c := range everyByte() {
		others := joined(mixed(int(c), 8))
		for _, x := range everyByte() {
			want := gf8.Mul(c, x)
			if want != product(c, x) {
				t.Fatalf("%d times %d by layer 2 is %d", c, x, want)
			}
			for j := range 8 {
				alone := uint64(x) << (8 * j)
				if got := Word(c, alone); got != uint64(want)<<(8*j) {
					t.Fatalf("Word(%d, %016x) is %016x", c, alone, got)
				}
				among := others&^(uint64(0xFF)<<(8*j)) | alone
				if got := byte(Word(c, among) >> (8 * j)); got != want {
					t.Fatalf("Word(%d, %016x) has %d at %d in the place of %d", c, among, got, j, want)
				}
			}
		}
	}
}

func TestWordOfEightBytes(t *testing.T) {
	for _, c := range everyByte() {
		for seed := range 50 {
			list := mixed(seed, 8)
			products := make([]byte, 8)
			for j, x := range list {
				products[j] = product(c, x)
			}
			if got, want := Word(c, joined(list)), joined(products); got != want {
				t.Fatalf("Word(%d, %016x) is %016x in the place of %016x", c, joined(list), got, want)
			}
		}
		all := bytes.Repeat([]byte{product(c, 255)}, 8)
		if got := Word(c, 1<<64-1); got != joined(all) {
			t.Fatalf("Word(%d, all ones) is %016x", c, got)
		}
		if got := Word(c, 0); got != 0 {
			t.Fatalf("Word(%d, 0) is %016x", c, got)
		}
	}
}

// P7.4

func TestColumnsOfAllFactors(t *testing.T) {
	for _, c := range everyByte() {
		list := Columns(c)
		if len(list) != 8 {
			t.Fatalf("Columns(%d) has %d bytes", c, len(list))
		}
		for b, x := range []byte{1, 2, 4, 8, 16, 32, 64, 128} {
			if list[b] != product(c, x) || list[b] != gf8.Mul(c, x) {
				t.Fatalf("Columns(%d) has %d at %d in the place of %d", c, list[b], b, product(c, x))
			}
		}
	}
}

func TestColumnsAreNewMemory(t *testing.T) {
	k := New()
	src := everyByte()
	for _, c := range everyByte() {
		first, second := Columns(c), Columns(c)
		whole := bytes.Clone(second[:cap(second)])
		turnAll(first)
		if !bytes.Equal(second[:cap(second)], whole) {
			t.Fatalf("two answers of Columns(%d) share memory", c)
		}
		dst := make([]byte, len(src))
		k.Mul(c, dst, src)
		if third := Columns(c); !bytes.Equal(third, second) || Word(c, 1) != uint64(c) || !bytes.Equal(dst, bothCalls()[0].behind(c, dst, src)) {
			t.Fatalf("a later call sees what is done to an answer of Columns(%d): %v", c, third)
		}
	}
}

// The chapter's examples.

func TestExamplesOfProducts(t *testing.T) {
	k := New()
	dst := []byte{9, 9, 9}
	if e := k.Mul(2, dst, []byte{0x80, 1, 0}); e != api.OK || !bytes.Equal(dst, []byte{0x1D, 2, 0}) {
		t.Errorf("example 1: %d %v", e, dst)
	}
	dst = []byte{5, 6}
	if e := k.MulAdd(1, dst, []byte{5, 5}); e != api.OK || !bytes.Equal(dst, []byte{0, 3}) {
		t.Errorf("example 2: %d %v", e, dst)
	}
	dst = []byte{9}
	if e := k.Mul(2, dst, []byte{1, 1}); e != api.ErrLens || !bytes.Equal(dst, []byte{9}) {
		t.Errorf("example 3: %d %v", e, dst)
	}
	dst = mixed(1, 20)
	if e := k.Mul(0, dst, mixed(2, 20)); e != api.OK || !bytes.Equal(dst, make([]byte, 20)) {
		t.Errorf("example 4: %d %v", e, dst)
	}
}

func TestExamplesOfWords(t *testing.T) {
	if got := Word(2, 0x8080808080808080); got != 0x1D1D1D1D1D1D1D1D {
		t.Errorf("example 5: %016x", got)
	}
	if got := Word(3, 0x0000000000000301); got != 0x0000000000000503 {
		t.Errorf("example 6: %016x", got)
	}
	if got := Columns(2); !bytes.Equal(got, []byte{2, 4, 8, 0x10, 0x20, 0x40, 0x80, 0x1D}) {
		t.Errorf("example 7: %x", got)
	}
}
