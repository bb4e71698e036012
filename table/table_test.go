package table

import (
	"bytes"
	"testing"

	"cullet/api"
	"cullet/gf8"
)

// P5.1

func TestNewAnswersNewKernels(t *testing.T) {
	k, l := New(), New()
	if k == nil || l == nil {
		t.Fatal("New answers nil")
	}
	if k == l {
		t.Fatal("New answers one kernel twice")
	}
	*k = Kernel{}
	if l.Product(2, 128) != 29 || New().Product(2, 128) != 29 {
		t.Error("two kernels share their tables")
	}
}

// P5.2 and P5.3

func TestAllFactorsAtAllBytes(t *testing.T) {
	k := New()
	src := everyFactor()
	for _, f := range bothCalls() {
		for _, c := range everyFactor() {
			dst := mixed(int(c), len(src))
			want := f.behind(c, dst, src)
			if e := f.run(k, c, dst, src); e != api.OK || !bytes.Equal(dst, want) {
				t.Fatalf("%s by %d: %d, %v in the place of %v", f.name, c, e, dst, want)
			}
		}
	}
}

func TestAllProductsOfLayer2(t *testing.T) {
	k := New()
	src := everyFactor()
	for _, c := range everyFactor() {
		dst, sum := make([]byte, len(src)), mixed(7, len(src))
		was := bytes.Clone(sum)
		if e := k.Mul(c, dst, src); e != api.OK {
			t.Fatalf("Mul by %d: %d", c, e)
		}
		if e := k.MulAdd(c, sum, src); e != api.OK {
			t.Fatalf("MulAdd by %d: %d", c, e)
		}
		for i, x := range src {
			want := gf8.Mul(c, x)
			if dst[i] != want || sum[i] != was[i]^want || k.Product(c, x) != want {
				t.Fatalf("%d times %d: Mul %d, MulAdd of %d %d, Product %d in the place of %d", c, x, dst[i], was[i], sum[i], k.Product(c, x), want)
			}
		}
	}
}

func TestAllLengths(t *testing.T) {
	k := New()
	for _, f := range bothCalls() {
		for _, c := range factors() {
			for _, n := range lengths() {
				dst, src := mixed(n, n), mixed(n+1, n)
				want := f.behind(c, dst, src)
				if e := f.run(k, c, dst, src); e != api.OK || !bytes.Equal(dst, want) {
					t.Errorf("%s by %d of %d bytes: %d, or wrong bytes", f.name, c, n, e)
				}
			}
		}
	}
}

func TestNoughtAndOne(t *testing.T) {
	k := New()
	src := mixed(3, 300)
	dst := mixed(4, 300)
	was := bytes.Clone(dst)
	if e := k.MulAdd(0, dst, src); e != api.OK || !bytes.Equal(dst, was) {
		t.Errorf("MulAdd by 0: %d, or dst is changed", e)
	}
	if e := k.Mul(1, dst, src); e != api.OK || !bytes.Equal(dst, src) {
		t.Errorf("Mul by 1: %d, or dst is not src", e)
	}
	if e := k.MulAdd(1, dst, src); e != api.OK || !bytes.Equal(dst, make([]byte, 300)) {
		t.Errorf("MulAdd by 1 of the same contents: %d, or not nought", e)
	}
	if e := k.Mul(0, was, src); e != api.OK || !bytes.Equal(was, make([]byte, 300)) {
		t.Errorf("Mul by 0: %d, or not nought", e)
	}
}

func TestNoBytes(t *testing.T) {
	k := New()
	room := []byte{1, 2, 3}
	without := [][]byte{nil, {}, make([]byte, 0, 5), room[:0], room[1:1], room[3:]}
	for _, f := range bothCalls() {
		for _, c := range factors() {
			for i, dst := range without {
				for j, src := range without {
					if e := f.run(k, c, dst, src); e != api.OK {
						t.Errorf("%s by %d of no bytes, kinds %d and %d: %d", f.name, c, i, j, e)
					}
				}
			}
		}
	}
	if !bytes.Equal(room, []byte{1, 2, 3}) {
		t.Errorf("bytes behind the lists are changed: %v", room)
	}
}

// P5.4

func TestSameBytes(t *testing.T) {
	k := New()
	for _, f := range bothCalls() {
		for _, c := range everyFactor() {
			for _, n := range []int{1, 2, 7, 8, 9, 64, 256, 1000} {
				middle, array := piece(mixed(n, n))
				want := bytes.Clone(array)
				copy(want[11:], f.behind(c, middle, middle))
				if e := f.run(k, c, middle, array[11:11+n:11+n]); e != api.OK || !bytes.Equal(array, want) {
					t.Errorf("%s by %d of the same %d bytes: %d, or wrong bytes", f.name, c, n, e)
				}
			}
		}
	}
}

func TestPiecesOfGreaterArrays(t *testing.T) {
	k := New()
	for _, f := range bothCalls() {
		for _, c := range factors() {
			for _, n := range lengths() {
				dst, around := piece(mixed(n+2, n))
				src, origin := piece(mixed(n+3, n))
				want, kept := bytes.Clone(around), bytes.Clone(origin)
				copy(want[11:], f.behind(c, dst, src))
				if e := f.run(k, c, dst, src); e != api.OK || !bytes.Equal(around, want) || !bytes.Equal(origin, kept) {
					t.Errorf("%s by %d of %d bytes within greater arrays: %d, or wrong bytes", f.name, c, n, e)
				}
			}
		}
	}
}

// Neighbours in one array share no byte, so each is as if it were alone.
func TestNeighbours(t *testing.T) {
	k := New()
	for _, f := range bothCalls() {
		for _, c := range factors() {
			for _, n := range []int{1, 5, 8, 100} {
				for _, turned := range []bool{false, true} {
					array := mixed(n, 2*n+6)
					dst, src := array[3:3+n], array[3+n:3+2*n]
					if turned {
						dst, src = src, dst
					}
					kept, want := bytes.Clone(src), f.behind(c, dst, src)
					ahead, beyond := bytes.Clone(array[:3]), bytes.Clone(array[3+2*n:])
					if e := f.run(k, c, dst, src); e != api.OK || !bytes.Equal(dst, want) || !bytes.Equal(src, kept) || !bytes.Equal(array[:3], ahead) || !bytes.Equal(array[3+2*n:], beyond) {
						t.Errorf("%s by %d of %d bytes beside each other: %d, %v", f.name, c, n, e, array)
					}
				}
			}
		}
	}
}

// Of slices that share some bytes the answer is promised, and the bytes outside both.
func TestPartlyShared(t *testing.T) {
	k := New()
	for _, f := range bothCalls() {
		for _, c := range factors() {
			for _, n := range []int{2, 3, 8, 9, 70, 300} {
				for _, by := range []int{1, n / 2, n - 1} {
					array := mixed(n+by, n+by+20)
					was := bytes.Clone(array)
					low, high := array[10:10+n], array[10+by:10+by+n]
					up := f.run(k, c, high, low)
					down := f.run(k, c, low, high)
					if up != api.OK || down != api.OK || !bytes.Equal(array[:10], was[:10]) || !bytes.Equal(array[10+by+n:], was[10+by+n:]) {
						t.Errorf("%s by %d of %d bytes, %d apart: %d and %d, or a byte outside is changed", f.name, c, n, by, up, down)
					}
				}
			}
		}
	}
}

// P5.5

func TestProduct(t *testing.T) {
	k := New()
	for _, a := range everyFactor() {
		for _, b := range everyFactor() {
			if got, want := k.Product(a, b), product(a, b); got != want {
				t.Fatalf("Product(%d, %d) = %d in the place of %d", a, b, got, want)
			}
		}
	}
}

func TestRow(t *testing.T) {
	k := New()
	for _, c := range everyFactor() {
		row, e := k.Row(c)
		if e != api.OK || len(row) != 256 {
			t.Fatalf("Row(%d): %d, %d bytes", c, e, len(row))
		}
		for x, got := range row {
			if want := product(c, byte(x)); got != want {
				t.Fatalf("Row(%d) has %d at %d in the place of %d", c, got, x, want)
			}
		}
	}
}

func TestRowIsNewMemory(t *testing.T) {
	k := New()
	for _, c := range everyFactor() {
		first, _ := k.Row(c)
		second, _ := k.Row(c)
		next, _ := k.Row(c + 1)
		kept := bytes.Clone(second[:cap(second)])
		after := bytes.Clone(next[:cap(next)])
		for i := range first[:cap(first)] {
			first[:cap(first)][i] ^= 0xFF
		}
		if !bytes.Equal(second[:cap(second)], kept) || !bytes.Equal(next[:cap(next)], after) {
			t.Fatalf("two answers of Row(%d) share memory", c)
		}
	}
	for _, c := range everyFactor() {
		for _, x := range everyFactor() {
			if k.Product(c, x) != product(c, x) {
				t.Fatalf("the kernel's product of %d and %d is changed by way of a row", c, x)
			}
		}
	}
}

// The chapter's examples.

func TestExamples(t *testing.T) {
	k := New()
	if k.Product(2, 128) != 29 || k.Product(0, 9) != 0 {
		t.Error("example 1")
	}
	dst := []byte{9, 9, 9}
	if e := k.Mul(2, dst, []byte{1, 2, 128}); e != api.OK || !bytes.Equal(dst, []byte{2, 4, 29}) {
		t.Errorf("example 2: %d %v", e, dst)
	}
	dst = []byte{9, 9, 9}
	if e := k.MulAdd(2, dst, []byte{1, 2, 128}); e != api.OK || !bytes.Equal(dst, []byte{11, 13, 20}) {
		t.Errorf("example 3: %d %v", e, dst)
	}
	dst = []byte{9, 9, 9}
	if e := k.Mul(2, dst, []byte{1, 2}); e != api.ErrLens || !bytes.Equal(dst, []byte{9, 9, 9}) {
		t.Errorf("example 4: %d %v", e, dst)
	}
	b := []byte{1, 2, 128}
	if e := k.Mul(2, b, b); e != api.OK || !bytes.Equal(b, []byte{2, 4, 29}) {
		t.Errorf("example 5: %d %v", e, b)
	}
	if e := k.MulAdd(1, b, b); e != api.OK || !bytes.Equal(b, []byte{0, 0, 0}) {
		t.Errorf("example 5: %d %v", e, b)
	}
	row, e := k.Row(3)
	if e != api.OK || !bytes.HasPrefix(row, []byte{0, 3, 6, 5}) || row[128] != 157 {
		t.Errorf("example 6: %d %v", e, row)
	}
}
