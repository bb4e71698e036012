package walsh

import (
	"fmt"
	"slices"
	"testing"

	"cullet/api"
)

// bothWays: Transform of v is what is wanted, and Inverse of that is v, with 0 for 65535.
func bothWays(t *testing.T, v, want []uint16) {
	t.Helper()
	list, e := Transform(v)
	wants(t, "Transform of "+brief(v), list, e, want)
	list, e = Inverse(want)
	wants(t, "Inverse of "+brief(want), list, e, residues(v))
}

// P15.1 and P15.2

func TestExamples(t *testing.T) {
	bothWays(t, []uint16{5}, []uint16{5})
	bothWays(t, []uint16{1, 2}, []uint16{3, 65534})
	bothWays(t, []uint16{1, 2, 3, 4}, []uint16{10, 65533, 65531, 0})
	bothWays(t, []uint16{65535, 0}, []uint16{0, 0})
	bothWays(t, []uint16{65534, 65534}, []uint16{65533, 0})
	list, e := Inverse([]uint16{65535})
	wants(t, "Inverse of 65535", list, e, []uint16{0})
	list, e = Transform([]uint16{65535})
	wants(t, "Transform of 65535", list, e, []uint16{0})
}

// A single number is its own transform, whichever it is.
func TestEveryNumberAlone(t *testing.T) {
	for n := range 65536 {
		list, e := Transform([]uint16{uint16(n)})
		wants(t, fmt.Sprintf("Transform of %d", n), list, e, []uint16{residue(n)})
		list, e = Inverse([]uint16{uint16(n)})
		wants(t, fmt.Sprintf("Inverse of %d", n), list, e, []uint16{residue(n)})
	}
}

// Two numbers: each one beside those at which something may be special.
func TestPairs(t *testing.T) {
	for a := range 65536 {
		for _, b := range []int{0, 1, 2, 32767, 32768, 65533, 65534, 65535, a, 65535 - a, 65535 - a/2} {
			for _, v := range [][2]int{{a, b}, {b, a}} {
				bothWays(t, []uint16{uint16(v[0]), uint16(v[1])}, []uint16{residue(v[0] + v[1]), residue(v[0] - v[1])})
			}
		}
	}
}

func TestEverySize(t *testing.T) {
	d := dice(10)
	for _, n := range powersOfTwo(1, 1024) {
		for range 5 {
			v := d.words(n)
			bothWays(t, v, transform(v))
		}
	}
}

// Lists that the transform's sums overflow at once, or that hold nothing but both kinds of 0.
func TestSpecialNumbers(t *testing.T) {
	for _, n := range powersOfTwo(1, 512) {
		for _, c := range []uint16{0, 1, 32767, 32768, 65533, 65534, 65535} {
			v := slices.Repeat([]uint16{c}, n)
			bothWays(t, v, transform(v))
			for j := range v {
				if j%3 == 1 {
					v[j] = 65535 - c
				}
			}
			bothWays(t, v, transform(v))
		}
	}
}

// The great sizes: all numbers of single marks, and some numbers of full lists.
func TestGreatSizes(t *testing.T) {
	d := dice(11)
	for _, n := range powersOfTwo(2048, 65536) {
		for _, j := range d.somePlaces(n) {
			c := uint16(d.next(65536))
			v := unit(n, j, c)
			want := make([]uint16, n)
			for i := range want {
				want[i] = transformAt([]uint16{0, c}, parity(i&j))
			}
			bothWays(t, v, want)
		}
		for _, v := range [][]uint16{d.words(n), slices.Repeat([]uint16{65534}, n), slices.Repeat([]uint16{65535}, n)} {
			list, e := Transform(v)
			if e != api.OK || len(list) != n {
				t.Fatalf("Transform of %d numbers: %d of them, %d", n, len(list), e)
			}
			for _, i := range d.somePlaces(n) {
				if want := transformAt(v, i); list[i] != want {
					t.Errorf("Transform of %d numbers: %d at place %d, want %d", n, list[i], i, want)
				}
			}
			bothWays(t, v, list)
		}
	}
}

// parity: is the number of bits odd? 1 if so.
func parity(i int) int {
	odd := 0
	for ; i != 0; i >>= 1 {
		odd ^= i & 1
	}
	return odd
}

// Lists that were made by no Transform have one that leads to them; 65535 in them means 0.
func TestInverseOfAnyList(t *testing.T) {
	d := dice(12)
	for _, n := range powersOfTwo(1, 65536) {
		list := d.words(n)
		list[d.next(n)] = 65535
		back, e := Inverse(list)
		if e != api.OK || len(back) != n || slices.Contains(back, 65535) {
			t.Fatalf("Inverse of %d numbers: %d of them, %d", n, len(back), e)
		}
		there, e := Transform(back)
		wants(t, fmt.Sprintf("Transform of the Inverse of %d numbers", n), there, e, residues(list))
		if n <= 1024 && !slices.Equal(transform(back), residues(list)) {
			t.Errorf("Inverse of %d numbers: its transform isn't that list", n)
		}
	}
}

// n log n steps: a call of n * n steps would not be through with these.
func TestManyGreatOnes(t *testing.T) {
	v := slices.Repeat([]uint16{1}, 65536)
	for range 100 {
		bothWays(t, v, unit(65536, 0, 1))
	}
}

func TestNoGoodLength(t *testing.T) {
	for _, n := range wrongLengths() {
		list, e := Transform(make([]uint16, n))
		refuses(t, fmt.Sprintf("Transform of %d numbers", n), list, e, api.ErrPower)
		list, e = Inverse(make([]uint16, n))
		refuses(t, fmt.Sprintf("Inverse of %d numbers", n), list, e, api.ErrPower)
	}
	list, e := Transform(nil)
	refuses(t, "Transform of nil", list, e, api.ErrPower)
	list, e = Inverse(nil)
	refuses(t, "Inverse of nil", list, e, api.ErrPower)
	for n := range 2100 {
		good := slices.Contains(powersOfTwo(1, 2048), n)
		if _, e := Transform(make([]uint16, n)); (e == api.OK) != good {
			t.Errorf("Transform of %d numbers: %d", n, e)
		}
		if _, e := Inverse(make([]uint16, n)); (e == api.OK) != good {
			t.Errorf("Inverse of %d numbers: %d", n, e)
		}
	}
}

// P15.3

func TestConvolveExamples(t *testing.T) {
	list, e := Convolve([]uint16{1, 2}, []uint16{3, 4})
	wants(t, "Convolve of 1 2 and 3 4", list, e, []uint16{11, 10})
	list, e = Convolve([]uint16{1, 2}, []uint16{3})
	refuses(t, "Convolve of 1 2 and 3", list, e, api.ErrLens)
	list, e = Convolve([]uint16{1, 2}, nil)
	refuses(t, "Convolve of 1 2 and nothing", list, e, api.ErrPower)
}

func TestConvolve(t *testing.T) {
	d := dice(13)
	for _, n := range powersOfTwo(1, 512) {
		for range 4 {
			a, b := d.words(n), d.words(n)
			list, e := Convolve(a, b)
			wants(t, fmt.Sprintf("Convolve of %s and %s", brief(a), brief(b)), list, e, convolution(a, b))
			list, e = Convolve(a, a)
			wants(t, "Convolve of a list and itself: "+brief(a), list, e, convolution(a, a))
		}
	}
}

func TestConvolveOfSpecialNumbers(t *testing.T) {
	special := []uint16{0, 1, 2, 255, 256, 257, 32767, 32768, 65533, 65534, 65535}
	for _, n := range []int{1, 2, 4, 64} {
		for _, x := range special {
			for _, y := range special {
				a, b := slices.Repeat([]uint16{x}, n), slices.Repeat([]uint16{y}, n)
				list, e := Convolve(a, b)
				wants(t, fmt.Sprintf("Convolve of %d times %d and %d", n, x, y), list, e, convolution(a, b))
			}
		}
	}
}

// A mark at one place moves the other list's places, and multiplies.
func TestConvolveOfGreatSizes(t *testing.T) {
	d := dice(14)
	for _, n := range powersOfTwo(1024, 65536) {
		for _, j := range d.somePlaces(n) {
			b, c := d.words(n), d.next(65536)
			want := make([]uint16, n)
			for i, y := range b {
				want[i^j] = residue(c * int(y))
			}
			list, e := Convolve(unit(n, j, uint16(c)), b)
			wants(t, fmt.Sprintf("Convolve of %d at place %d of %d", c, j, n), list, e, want)
			list, e = Convolve(b, unit(n, j, uint16(c)))
			wants(t, fmt.Sprintf("Convolve with %d at place %d of %d", c, j, n), list, e, want)
		}
	}
}

func TestConvolveRefuses(t *testing.T) {
	good := powersOfTwo(1, 65536)
	for _, n := range wrongLengths() {
		for _, other := range append(wrongLengths()[:10], good...) {
			list, e := Convolve(make([]uint16, n), make([]uint16, other))
			refuses(t, fmt.Sprintf("Convolve of %d and %d numbers", n, other), list, e, api.ErrPower)
			list, e = Convolve(make([]uint16, other), make([]uint16, n))
			refuses(t, fmt.Sprintf("Convolve of %d and %d numbers", other, n), list, e, api.ErrPower)
		}
		list, e := Convolve(make([]uint16, n), make([]uint16, n))
		refuses(t, fmt.Sprintf("Convolve of %d numbers twice", n), list, e, api.ErrPower)
	}
	for _, n := range good {
		for _, other := range good {
			if n != other {
				list, e := Convolve(make([]uint16, n), make([]uint16, other))
				refuses(t, fmt.Sprintf("Convolve of %d and %d numbers", n, other), list, e, api.ErrLens)
			}
		}
	}
}
