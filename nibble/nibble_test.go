package nibble

import (
	"bytes"
	"testing"

	"cullet/api"
	"cullet/gf8"
)

// P6.1

func TestHalvesOfAllFactors(t *testing.T) {
	for _, c := range everyByte() {
		low, high := Halves(c)
		if len(low) != 16 || len(high) != 16 {
			t.Fatalf("Halves(%d) has %d and %d bytes", c, len(low), len(high))
		}
		for i := range 16 {
			if want := product(c, byte(i)); low[i] != want || low[i] != gf8.Mul(c, byte(i)) {
				t.Fatalf("Halves(%d) has %d at %d of low in the place of %d", c, low[i], i, want)
			}
			if want := product(c, byte(16*i)); high[i] != want || high[i] != gf8.Mul(c, byte(16*i)) {
				t.Fatalf("Halves(%d) has %d at %d of high in the place of %d", c, high[i], i, want)
			}
		}
	}
}

// Each of the lists of two calls is turned in its turn, its spare room too: the three others must not see it.
func TestHalvesAreNewMemory(t *testing.T) {
	for _, c := range everyByte() {
		for turned := range 4 {
			var lists, kept [4][]byte
			lists[0], lists[1] = Halves(c)
			lists[2], lists[3] = Halves(c)
			for i, list := range lists {
				kept[i] = bytes.Clone(list[:cap(list)])
			}
			turnAll(lists[turned])
			for i, list := range lists {
				if i != turned && !bytes.Equal(list[:cap(list)], kept[i]) {
					t.Fatalf("Halves(%d): the lists %d and %d of two calls share memory", c, turned, i)
				}
			}
		}
	}
}

// What is done to the lists that Halves answered is seen by no later call, of Halves or of a kernel.
func TestHalvesHandsNothingKeptOut(t *testing.T) {
	k := New()
	src := everyByte()
	for _, c := range everyByte() {
		low, high := Halves(c)
		turnAll(low)
		turnAll(high)
		low, high = Halves(c)
		dst := make([]byte, len(src))
		k.Mul(c, dst, src)
		for i, x := range src {
			want := product(c, x)
			if dst[i] != want || low[x&15]^high[x>>4] != want {
				t.Fatalf("%d times %d: %d, by halves %d, in the place of %d", c, x, dst[i], low[x&15]^high[x>>4], want)
			}
		}
	}
}

// P6.2

func TestNewIsNeverNil(t *testing.T) {
	for range 100 {
		if New() == nil {
			t.Fatal("New answers nil")
		}
	}
}

// Kernels that were made ahead of calls and behind them, that have worked and that have not: all answer alike.
func TestKernelsAnswerAlike(t *testing.T) {
	src := everyByte()
	idle, busy, failed := New(), New(), New()
	for _, c := range everyByte() {
		busy.Mul(c, mixed(1, 50), mixed(2, 50))
		failed.Mul(c, mixed(1, 50), mixed(2, 51))
	}
	for _, f := range bothCalls() {
		for _, c := range everyByte() {
			want := f.behind(c, mixed(int(c), len(src)), src)
			for i, k := range []*Kernel{idle, busy, failed, New()} {
				dst := mixed(int(c), len(src))
				if e := f.run(k, c, dst, src); e != api.OK || !bytes.Equal(dst, want) {
					t.Fatalf("%s by %d of kernel %d: %d, %v in the place of %v", f.name, c, i, e, dst, want)
				}
				if e := f.run(k, c, dst, src[1:]); e != api.ErrLens {
					t.Fatalf("%s by %d of kernel %d, unlike lengths: %d", f.name, c, i, e)
				}
			}
		}
	}
}

// P6.3 and P6.4

func TestAllFactorsAtAllBytes(t *testing.T) {
	k := New()
	src := everyByte()
	for _, f := range bothCalls() {
		for _, c := range everyByte() {
			dst := mixed(int(c), len(src))
			want := f.behind(c, dst, src)
			if e := f.run(k, c, dst, src); e != api.OK || !bytes.Equal(dst, want) {
				t.Fatalf("%s by %d: %d, %v in the place of %v", f.name, c, e, dst, want)
			}
		}
	}
}

func TestAllProductsOfLayer2(t *testing.T) {
	k := New()
	src := everyByte()
	for _, c := range everyByte() {
		dst, sum := mixed(6, len(src)), mixed(7, len(src))
		was := bytes.Clone(sum)
		if e := k.Mul(c, dst, src); e != api.OK {
			t.Fatalf("Mul by %d: %d", c, e)
		}
		if e := k.MulAdd(c, sum, src); e != api.OK {
			t.Fatalf("MulAdd by %d: %d", c, e)
		}
		for i, x := range src {
			want := gf8.Mul(c, x)
			if dst[i] != want || sum[i] != was[i]^want {
				t.Fatalf("%d times %d: Mul %d, MulAdd of %d %d in the place of %d", c, x, dst[i], was[i], sum[i], want)
			}
		}
	}
}

func TestAllLengths(t *testing.T) {
	k := New()
	for _, f := range bothCalls() {
		for _, c := range factors() {
			for _, n := range lengths() {
				dst, src := mixed(n, n), mixed(n+1, n)
				want := f.behind(c, dst, src)
				if e := f.run(k, c, dst, src); e != api.OK || !bytes.Equal(dst, want) {
					t.Errorf("%s by %d of %d bytes: %d, or wrong bytes", f.name, c, n, e)
				}
			}
		}
	}
}

func TestNoughtAndOne(t *testing.T) {
	k := New()
	src := mixed(3, 300)
	dst := mixed(4, 300)
	was := bytes.Clone(dst)
	if e := k.MulAdd(0, dst, src); e != api.OK || !bytes.Equal(dst, was) {
		t.Errorf("MulAdd by 0: %d, or dst is changed", e)
	}
	if e := k.Mul(1, dst, src); e != api.OK || !bytes.Equal(dst, src) {
		t.Errorf("Mul by 1: %d, or dst is not src", e)
	}
	if e := k.MulAdd(1, dst, src); e != api.OK || !bytes.Equal(dst, make([]byte, 300)) {
		t.Errorf("MulAdd by 1 of the same contents: %d, or not nought", e)
	}
	if e := k.Mul(0, was, src); e != api.OK || !bytes.Equal(was, make([]byte, 300)) {
		t.Errorf("Mul by 0: %d, or not nought", e)
	}
}

func TestNoBytes(t *testing.T) {
	k := New()
	room := []byte{1, 2, 3}
	without := [][]byte{nil, {}, make([]byte, 0, 5), room[:0], room[1:1], room[3:]}
	for _, f := range bothCalls() {
		for _, c := range factors() {
			for i, dst := range without {
				for j, src := range without {
					if e := f.run(k, c, dst, src); e != api.OK {
						t.Errorf("%s by %d of no bytes, kinds %d and %d: %d", f.name, c, i, j, e)
					}
				}
			}
		}
	}
	if !bytes.Equal(room, []byte{1, 2, 3}) {
		t.Errorf("bytes behind the lists are changed: %v", room)
	}
}

// P6.5

func TestSameBytes(t *testing.T) {
	k := New()
	for _, f := range bothCalls() {
		for _, c := range everyByte() {
			for _, n := range []int{1, 2, 7, 8, 9, 64, 256, 1000} {
				middle, array := piece(mixed(n, n))
				want := bytes.Clone(array)
				copy(want[ahead:], f.behind(c, middle, middle))
				if e := f.run(k, c, middle, array[ahead:ahead+n:ahead+n]); e != api.OK || !bytes.Equal(array, want) {
					t.Errorf("%s by %d of the same %d bytes: %d, or wrong bytes", f.name, c, n, e)
				}
			}
		}
	}
}

func TestPiecesOfGreaterArrays(t *testing.T) {
	k := New()
	for _, f := range bothCalls() {
		for _, c := range factors() {
			for _, n := range lengths() {
				dst, around := piece(mixed(n+2, n))
				src, origin := piece(mixed(n+3, n))
				want, kept := bytes.Clone(around), bytes.Clone(origin)
				copy(want[ahead:], f.behind(c, dst, src))
				if e := f.run(k, c, dst, src); e != api.OK || !bytes.Equal(around, want) || !bytes.Equal(origin, kept) {
					t.Errorf("%s by %d of %d bytes within greater arrays: %d, or wrong bytes", f.name, c, n, e)
				}
			}
		}
	}
}

// Neighbours in one array share no byte, so each is as if it were alone, though one lies in the other's spare room.
func TestNeighbours(t *testing.T) {
	k := New()
	for _, f := range bothCalls() {
		for _, c := range factors() {
			for _, n := range []int{1, 5, 8, 100} {
				for _, turned := range []bool{false, true} {
					array := mixed(n, 2*n+6)
					to, from := 3, 3+n
					if turned {
						to, from = from, to
					}
					dst, src := array[to:to+n], array[from:from+n]
					want := bytes.Clone(array)
					copy(want[to:], f.behind(c, dst, src))
					if e := f.run(k, c, dst, src); e != api.OK || !bytes.Equal(array, want) {
						t.Errorf("%s by %d of %d bytes beside each other: %d, %v in the place of %v", f.name, c, n, e, array, want)
					}
				}
			}
		}
	}
}

// Of slices that share some bytes the answer is promised, and the bytes outside both.
func TestPartlyShared(t *testing.T) {
	k := New()
	for _, f := range bothCalls() {
		for _, c := range factors() {
			for _, n := range []int{2, 3, 8, 9, 70, 300} {
				for _, by := range []int{1, n / 2, n - 1} {
					array := mixed(n+by, n+by+20)
					was := bytes.Clone(array)
					lower, upper := array[10:10+n], array[10+by:10+by+n]
					up := f.run(k, c, upper, lower)
					down := f.run(k, c, lower, upper)
					if up != api.OK || down != api.OK || !bytes.Equal(array[:10], was[:10]) || !bytes.Equal(array[10+by+n:], was[10+by+n:]) {
						t.Errorf("%s by %d of %d bytes, %d apart: %d and %d, or a byte outside is changed", f.name, c, n, by, up, down)
					}
				}
			}
		}
	}
}

// The chapter's examples.

func TestExampleOfHalves(t *testing.T) {
	low, high := Halves(2)
	if !bytes.Equal(low, []byte{0, 2, 4, 6, 8, 10, 12, 14, 16, 18, 20, 22, 24, 26, 28, 30}) {
		t.Errorf("example 1: low %v", low)
	}
	if !bytes.Equal(high, []byte{0, 32, 64, 96, 128, 160, 192, 224, 29, 61, 93, 125, 157, 189, 221, 253}) {
		t.Errorf("example 1: high %v", high)
	}
}

func TestExamplesOfProducts(t *testing.T) {
	k := New()
	dst := []byte{9, 9, 9}
	if e := k.Mul(2, dst, []byte{0x8F, 0x01, 0x00}); e != api.OK || !bytes.Equal(dst, []byte{0x03, 0x02, 0x00}) {
		t.Errorf("example 2: %d %v", e, dst)
	}
	dst = []byte{1, 1, 1}
	if e := k.MulAdd(2, dst, []byte{0x8F, 0x01, 0x00}); e != api.OK || !bytes.Equal(dst, []byte{2, 3, 1}) {
		t.Errorf("example 3: %d %v", e, dst)
	}
	dst = []byte{1, 2}
	if e := k.Mul(7, dst, []byte{1}); e != api.ErrLens || !bytes.Equal(dst, []byte{1, 2}) {
		t.Errorf("example 4: %d %v", e, dst)
	}
	if e := k.Mul(7, nil, nil); e != api.OK {
		t.Errorf("example 4: %d", e)
	}
	x, y := []byte{1, 2, 128}, []byte{5, 6, 7}
	if e := k.MulAdd(0, x, y); e != api.OK || !bytes.Equal(x, []byte{1, 2, 128}) {
		t.Errorf("example 5: %d %v", e, x)
	}
	if e := k.MulAdd(1, x, x); e != api.OK || !bytes.Equal(x, []byte{0, 0, 0}) {
		t.Errorf("example 5: %d %v", e, x)
	}
}
