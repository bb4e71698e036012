package frame

import (
	"bytes"
	"testing"
)

// P25.1.

// The chapter's examples.
func TestSumOfKnownTexts(t *testing.T) {
	if s := Sum([]byte("123456789")); s != 0xCBF43926 {
		t.Errorf("Sum of nine digits: %#x", s)
	}
	if s := Sum([]byte{0}); s != 0xD202EF8D {
		t.Errorf("Sum of a zero: %#x", s)
	}
	if s := Fold(Sum([]byte("12345")), []byte("6789")); s != 0xCBF43926 {
		t.Errorf("Fold: %#x", s)
	}
	for _, none := range [][]byte{nil, {}} {
		if s := Sum(none); s != 0 {
			t.Errorf("Sum of nothing: %#x", s)
		}
		for _, sum := range []uint32{0, 1, 0xCBF43926, 1<<32 - 1} {
			if s := Fold(sum, none); s != sum {
				t.Errorf("Fold of %#x with nothing: %#x", sum, s)
			}
		}
	}
}

// All lists of one byte and of two, and thrown ones.
func TestSum(t *testing.T) {
	for a := range 256 {
		lists := [][]byte{{byte(a)}}
		for b := range 256 {
			lists = append(lists, []byte{byte(a), byte(b)})
		}
		for _, list := range lists {
			if s := Sum(list); s != sumOf(list) {
				t.Fatalf("Sum of %v: %#x, it is to be %#x", list, s, sumOf(list))
			}
		}
	}
	d := dice(1)
	for n := range 300 {
		for _, list := range [][]byte{d.bytes(n), make([]byte, n), bytes.Repeat([]byte{255}, n)} {
			if s := Sum(list); s != sumOf(list) {
				t.Fatalf("Sum of %v: %#x, it is to be %#x", list, s, sumOf(list))
			}
		}
	}
}

// Fold goes on wherever a list is cut, and from any number on.
func TestFold(t *testing.T) {
	d := dice(2)
	for n := range 60 {
		list := d.bytes(n)
		for cut := range n + 1 {
			if s := Fold(Sum(list[:cut]), list[cut:]); s != sumOf(list) {
				t.Fatalf("Fold of %v and %v: %#x, it is to be %#x", list[:cut], list[cut:], s, sumOf(list))
			}
		}
		if s := Fold(0, list); s != sumOf(list) {
			t.Fatalf("Fold of 0 and %v: %#x, it is to be %#x", list, s, sumOf(list))
		}
		for _, sum := range []uint32{1, 1 << 31, 1<<32 - 1, uint32(fromLow(d.bytes(4)))} {
			if s := Fold(sum, list); s != sumFrom(^sum, list) {
				t.Fatalf("Fold of %#x and %v: %#x, it is to be %#x", sum, list, s, sumFrom(^sum, list))
			}
		}
	}
}
