package gf16

import (
	"math"
	"slices"
	"testing"

	"cullet/api"
)

// P3.5

func TestRootExamples(t *testing.T) {
	for _, c := range [][2]uint16{{1, 0xACCA}, {0, 0}, {0xACCA, 0x3C0E}, {0x3C0E, 0x163E}, {0xFF38, 0x991E}} {
		if y, e := Root(c[0]); y != c[1] || e != api.OK {
			t.Errorf("Root(%#x) = %#x, %d, want %#x", c[0], y, e, c[1])
		}
	}
	for _, a := range []uint16{0x991E, 0x0800, 0x2000} {
		if y, e := Root(a); y != 0 || e != api.ErrNoRoot {
			t.Errorf("Root(%#x) = %#x, %d, want 0, ErrNoRoot", a, y, e)
		}
	}
}

func TestRootOfEveryElement(t *testing.T) {
	want := roots()
	for _, a := range everyElement() {
		y, e := Root(a)
		if want[a] < 0 && (y != 0 || e != api.ErrNoRoot) {
			t.Errorf("Root(%#x) = %#x, %d, want 0, ErrNoRoot", a, y, e)
		}
		if want[a] >= 0 && (int(y) != want[a] || e != api.OK) {
			t.Errorf("Root(%#x) = %#x, %d, want %#x", a, y, e, want[a])
		}
		if (e == api.OK) != (Trace(a) == 0) {
			t.Errorf("Root(%#x) answers %d, and the trace is %d", a, e, Trace(a))
		}
	}
}

// P3.6

func TestBasisExample(t *testing.T) {
	b := Basis()
	if len(b) != 16 {
		t.Fatalf("Basis has %d elements, want 16", len(b))
	}
	if !slices.Equal(b[:4], []uint16{0x0001, 0xACCA, 0x3C0E, 0x163E}) || b[15] != 0x991E {
		t.Errorf("Basis() = %#x", b)
	}
}

func TestBasisByItsDefinition(t *testing.T) {
	if b, want := Basis(), cantor(t); !slices.Equal(b, want) {
		t.Errorf("Basis() = %#x, want %#x", b, want)
	}
}

func TestBasisIsNewMemory(t *testing.T) {
	want := cantor(t)
	kept := Basis()
	spoil(Basis())
	grown := append(Basis(), 1, 2, 3)
	grown[0] = 0x5A5A
	again := Basis()
	if !slices.Equal(kept, want) || !slices.Equal(again, want) {
		t.Errorf("behind lists that were written over: %#x and %#x, want %#x", kept, again, want)
	}
	checkIndices(t, want)
}

// spoil writes a list over, its spare room too.
func spoil(list []uint16) {
	whole := list[:cap(list)]
	for i := range whole {
		whole[i] = 0xA5A5
	}
}

// checkIndices: Element and Index at every index, held against that basis.
func checkIndices(t *testing.T, basis []uint16) {
	for i := range 65536 {
		want := sumOf(basis, i)
		if w, e := Element(i); w != want || e != api.OK {
			t.Errorf("Element(%d) = %#x, %d, want %#x", i, w, e, want)
		}
		if index := Index(want); index != i {
			t.Errorf("Index(%#x) = %d, want %d", want, index, i)
		}
	}
}

func TestElementExamples(t *testing.T) {
	for _, c := range []struct {
		i    int
		want uint16
	}{{0, 0}, {1, 1}, {2, 0xACCA}, {3, 0xACCB}, {5, 0x3C0F}, {32768, 0x991E}, {65535, 0xB091}} {
		if w, e := Element(c.i); w != c.want || e != api.OK {
			t.Errorf("Element(%d) = %#x, %d, want %#x", c.i, w, e, c.want)
		}
	}
}

func TestElementOfNoIndex(t *testing.T) {
	for _, i := range []int{-1, -2, -32768, -65535, -65536, 65536, 65537, 131071, 1 << 31, 1 << 32, 1<<32 + 5, -1 << 32, math.MaxInt, math.MinInt, math.MinInt + 5} {
		if w, e := Element(i); w != 0 || e != api.ErrIndex {
			t.Errorf("Element(%d) = %#x, %d, want 0, ErrIndex", i, w, e)
		}
	}
}

func TestIndexExamples(t *testing.T) {
	for _, c := range []struct {
		a    uint16
		want int
	}{{0, 0}, {1, 1}, {0x3C0F, 5}, {2, 18064}, {3, 18065}, {0x991E, 32768}, {0xB091, 65535}} {
		if i := Index(c.a); i != c.want {
			t.Errorf("Index(%#x) = %d, want %d", c.a, i, c.want)
		}
	}
}

func TestElementAndIndexOfAll(t *testing.T) {
	checkIndices(t, cantor(t))
	seen := make([]bool, 65536)
	for _, a := range everyElement() {
		i := Index(a)
		if i < 0 || i > 65535 || seen[i] {
			t.Fatalf("Index(%#x) = %d, which is no index or another element's", a, i)
		}
		seen[i] = true
	}
}

// What follows, and is leant on above

func element(t *testing.T, i int) uint16 {
	w, e := Element(i)
	if e != api.OK {
		t.Fatalf("Element(%d) answers %d", i, e)
	}
	return w
}

func TestElementOfASumOfIndices(t *testing.T) {
	for _, i := range edges() {
		for j := range 65536 {
			if w, want := element(t, int(i)^j), element(t, int(i))^element(t, j); w != want {
				t.Errorf("the element of %d ^ %d is %#x, want %#x", i, j, w, want)
			}
		}
	}
}

func TestHalfTheIndex(t *testing.T) {
	for i := range 65536 {
		w := element(t, i)
		for steps := range 17 {
			if want := element(t, i>>steps); w != want {
				t.Errorf("behind %d steps from index %d stands %#x, want %#x", steps, i, w, want)
			}
			if (w == 0) != (i < 1<<steps) {
				t.Errorf("behind %d steps from index %d stands %#x", steps, i, w)
			}
			w = product(w, w) ^ w
		}
	}
}

func TestSmallFields(t *testing.T) {
	for _, size := range []int{2, 4, 16, 256} {
		for i := range size {
			for j := range size {
				a, b := element(t, i), element(t, j)
				if Index(a^b) >= size || Index(Mul(a, b)) >= size {
					t.Errorf("of %#x and %#x the sum has the index %d, the product %d: not below %d", a, b, Index(a^b), Index(Mul(a, b)), size)
				}
			}
		}
	}
}
