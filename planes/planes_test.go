package planes

import (
	"bytes"
	"testing"

	"cullet/api"
	"cullet/gf16"
)

// P8.1

func TestNewAnswersNewKernels(t *testing.T) {
	made := map[*Kernel]int{}
	for i := range 20 {
		k := New()
		if k == nil {
			t.Fatal("New answers nil")
		}
		if earlier, ok := made[k]; ok {
			t.Fatalf("New answers kernel %d once more", earlier)
		}
		made[k] = i
	}
}

// P8.2

func TestEveryWord(t *testing.T) {
	k := New()
	src := shardOf(everyWord()...)
	for _, f := range bothCalls() {
		for _, c := range factors() {
			dst := mixed(int(c), len(src))
			want := f.behind(c, dst, src)
			if e := f.run(k, c, dst, src); e != api.OK || !bytes.Equal(dst, want) {
				t.Fatalf("%s by %#x of every word: %d, or wrong bytes", f.name, c, e)
			}
		}
	}
}

func TestEveryFactor(t *testing.T) {
	k := New()
	src := shardOf(0, 1, 2, 15, 16, 255, 256, 0x1234, 0x8000, 0xACCA, 0xFF00, 0xFFFF)
	for _, f := range bothCalls() {
		for _, c := range everyWord() {
			dst := mixed(int(c), len(src))
			want := f.behind(c, dst, src)
			if e := f.run(k, c, dst, src); e != api.OK || !bytes.Equal(dst, want) {
				t.Fatalf("%s by %#x: %d, %x in the place of %x", f.name, c, e, dst, want)
			}
		}
	}
}

func TestProductsOfLayer3(t *testing.T) {
	k := New()
	for seed := range 400 {
		c := mixedWords(seed, 1)[0]
		src := mixed(seed+1, 2*100)
		dst, sum := mixed(seed+2, len(src)), mixed(seed+3, len(src))
		was := bytes.Clone(sum)
		if e := k.Mul(c, dst, src); e != api.OK {
			t.Fatalf("Mul by %#x: %d", c, e)
		}
		if e := k.MulAdd(c, sum, src); e != api.OK {
			t.Fatalf("MulAdd by %#x: %d", c, e)
		}
		for i := range len(src) / 2 {
			x := wordAt(src, i)
			want := gf16.Mul(c, x)
			if wordAt(dst, i) != want || wordAt(sum, i) != wordAt(was, i)^want {
				t.Fatalf("%#x times %#x: Mul %#x, MulAdd of %#x %#x in the place of %#x", c, x, wordAt(dst, i), wordAt(was, i), wordAt(sum, i), want)
			}
		}
	}
}

func TestAllLengths(t *testing.T) {
	k := New()
	for _, f := range bothCalls() {
		for _, c := range factors() {
			for _, n := range lengths() {
				dst, src := mixed(n, n), mixed(n+1, n)
				want := f.behind(c, dst, src)
				if e := f.run(k, c, dst, src); e != api.OK || !bytes.Equal(dst, want) {
					t.Errorf("%s by %#x of %d bytes: %d, or wrong bytes", f.name, c, n, e)
				}
			}
		}
	}
}

func TestGreatLengths(t *testing.T) {
	k := New()
	for _, f := range bothCalls() {
		for _, n := range []int{65534, 65536, 65538, 131070, 131072, 131074, 1 << 20} {
			dst, src := mixed(n, n), mixed(n+1, n)
			want := f.behind(0xBEEF, dst, src)
			if e := f.run(k, 0xBEEF, dst, src); e != api.OK || !bytes.Equal(dst, want) {
				t.Errorf("%s of %d bytes: %d, or wrong bytes", f.name, n, e)
			}
		}
	}
}

func TestNoughtAndOne(t *testing.T) {
	k := New()
	src := shardOf(everyWord()...)
	dst := mixed(1, len(src))
	if e := k.Mul(1, dst, src); e != api.OK || !bytes.Equal(dst, src) {
		t.Errorf("Mul by 1: %d, or not the source", e)
	}
	if e := k.MulAdd(0, dst, mixed(2, len(src))); e != api.OK || !bytes.Equal(dst, src) {
		t.Errorf("MulAdd by 0: %d, or dst is changed", e)
	}
	if e := k.MulAdd(1, dst, src); e != api.OK || !bytes.Equal(dst, make([]byte, len(src))) {
		t.Errorf("MulAdd by 1 to the source itself: %d, or not all 0", e)
	}
	dst = mixed(3, len(src))
	if e := k.Mul(0, dst, src); e != api.OK || !bytes.Equal(dst, make([]byte, len(src))) {
		t.Errorf("Mul by 0: %d, or not all 0", e)
	}
}

// A list without bytes is nil, empty, or empty with spare room, which stays as it is.
func TestNoBytes(t *testing.T) {
	k := New()
	spare := mixed(4, 10)
	was := bytes.Clone(spare)
	empty := [][]byte{nil, {}, spare[:0], spare[3:3]}
	for _, f := range bothCalls() {
		for _, c := range factors() {
			for i, dst := range empty {
				for j, src := range empty {
					if e := f.run(k, c, dst, src); e != api.OK {
						t.Errorf("%s by %#x of no bytes, %d and %d: %d", f.name, c, i, j, e)
					}
				}
			}
		}
	}
	if !bytes.Equal(spare, was) {
		t.Error("the spare room of an empty list is written")
	}
}

// P8.3

func TestSameBytes(t *testing.T) {
	k := New()
	for _, f := range bothCalls() {
		for _, c := range factors() {
			for _, n := range lengths() {
				list, array := piece(n%7, mixed(n, n))
				kept := bytes.Clone(array)
				copy(kept[n%7:], f.behind(c, list, list))
				if e := f.run(k, c, list, list); e != api.OK || !bytes.Equal(array, kept) {
					t.Errorf("%s by %#x of %d bytes, dst is src: %d, or wrong bytes", f.name, c, n, e)
				}
			}
		}
	}
}

// Said once more by layer 3: Mul makes c times of the list, MulAdd c + 1 times.
func TestSameBytesByLayer3(t *testing.T) {
	k := New()
	for _, c := range factors() {
		times, more := shardOf(everyWord()...), shardOf(everyWord()...)
		if e := k.Mul(c, times, times); e != api.OK {
			t.Fatalf("Mul by %#x: %d", c, e)
		}
		if e := k.MulAdd(c, more, more); e != api.OK {
			t.Fatalf("MulAdd by %#x: %d", c, e)
		}
		for i, x := range everyWord() {
			if wordAt(times, i) != gf16.Mul(c, x) || wordAt(more, i) != gf16.Mul(c^1, x) {
				t.Fatalf("the list is dst and src, %#x: Mul by %#x %#x, MulAdd %#x", x, c, wordAt(times, i), wordAt(more, i))
			}
		}
	}
}

// Pieces of greater arrays that begin at any place, odd ones too: nothing about them is touched, and src stays.
func TestPieces(t *testing.T) {
	k := New()
	for _, f := range bothCalls() {
		for _, c := range []uint16{0, 1, 2, 0xABCD} {
			for ahead := range 17 {
				for _, n := range []int{0, 2, 4, 6, 8, 10, 16, 18, 66, 600} {
					dst, around := piece(ahead, mixed(n, n))
					src, origin := piece(16-ahead, mixed(n+1, n))
					want, kept := bytes.Clone(around), bytes.Clone(origin)
					copy(want[ahead:], f.behind(c, dst, src))
					if e := f.run(k, c, dst, src); e != api.OK || !bytes.Equal(around, want) {
						t.Errorf("%s by %#x of %d bytes behind %d: %d, or wrong bytes", f.name, c, n, ahead, e)
					}
					if !bytes.Equal(origin, kept) {
						t.Errorf("%s by %#x of %d bytes behind %d has changed src or what is about it", f.name, c, n, 16-ahead)
					}
				}
			}
		}
	}
}

// Two pieces of one array that share no byte, one in the other's spare room, side by side or with a gap.
func TestPiecesOfOneArray(t *testing.T) {
	k := New()
	for _, f := range bothCalls() {
		for _, n := range []int{2, 4, 30, 200} {
			for _, gap := range []int{0, 1, 2, 5} {
				for _, at := range [][2]int{{3, 3 + n + gap}, {3 + n + gap, 3}} {
					array := mixed(n+gap, 2*n+gap+10)
					dst, src := array[at[0]:at[0]+n], array[at[1]:at[1]+n]
					want := bytes.Clone(array)
					copy(want[at[0]:], f.behind(0x4321, dst, src))
					if e := f.run(k, 0x4321, dst, src); e != api.OK || !bytes.Equal(array, want) {
						t.Errorf("%s of %d bytes at %v of one array: %d, or wrong bytes", f.name, n, at, e)
					}
				}
			}
		}
	}
}

// Of slices that share some bytes the answer is promised, and the bytes outside both.
func TestPartlyShared(t *testing.T) {
	k := New()
	for _, f := range bothCalls() {
		for _, c := range factors() {
			for _, n := range []int{2, 4, 8, 18, 70, 300} {
				for _, by := range []int{1, n / 2, n - 1} {
					array := mixed(n+by, n+by+20)
					was := bytes.Clone(array)
					lower, upper := array[10:10+n], array[10+by:10+by+n]
					up := f.run(k, c, upper, lower)
					down := f.run(k, c, lower, upper)
					if up != api.OK || down != api.OK || !bytes.Equal(array[:10], was[:10]) || !bytes.Equal(array[10+by+n:], was[10+by+n:]) {
						t.Errorf("%s by %#x of %d bytes, %d apart: %d and %d, or a byte outside is changed", f.name, c, n, by, up, down)
					}
				}
			}
		}
	}
}

// The chapter's examples.

func TestExamplesOfProducts(t *testing.T) {
	k := New()
	src := []byte{1, 0, 0, 0x80}
	dst := []byte{9, 9, 9, 9}
	if e := k.Mul(2, dst, src); e != api.OK || !bytes.Equal(dst, []byte{2, 0, 0x2D, 0}) {
		t.Errorf("example 4, Mul: %d %x", e, dst)
	}
	if e := k.MulAdd(2, dst, src); e != api.OK || !bytes.Equal(dst, []byte{0, 0, 0, 0}) {
		t.Errorf("example 4, MulAdd: %d %x", e, dst)
	}
	b := mixed(1, 20)
	if e := k.MulAdd(1, b, b); e != api.OK || !bytes.Equal(b, make([]byte, 20)) {
		t.Errorf("example 5, MulAdd: %d %x", e, b)
	}
	dst = mixed(2, 20)
	if e := k.Mul(0, dst, mixed(3, 20)); e != api.OK || !bytes.Equal(dst, make([]byte, 20)) {
		t.Errorf("example 5, Mul: %d %x", e, dst)
	}
	if e := k.Mul(7, []byte{1, 2, 3}, []byte{4, 5, 6}); e != api.ErrOdd {
		t.Errorf("example 6, three and three bytes: %d", e)
	}
	if e := k.Mul(7, []byte{1, 2, 3}, []byte{4, 5}); e != api.ErrLens {
		t.Errorf("example 6, three and two bytes: %d", e)
	}
	if e := k.Mul(7, nil, []byte{}); e != api.OK {
		t.Errorf("example 6, nil and empty: %d", e)
	}
}
