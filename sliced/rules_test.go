package sliced

import (
	"bytes"
	"slices"
	"sync"
	"testing"

	"cullet/api"
)

// P7.6, and what holds for all calls: P1, P8, the rules of the document, and the chapter's section 'Errors'.

func TestNewIsNeverNil(t *testing.T) {
	for range 100 {
		if New() == nil {
			t.Fatal("New answers nil")
		}
	}
}

// Kernels that were made ahead of calls and behind them, that have worked and that have not: all answer alike.
func TestKernelsAnswerAlike(t *testing.T) {
	src := append(everyByte(), 5, 6, 7)
	idle, busy, failed := New(), New(), New()
	for _, c := range everyByte() {
		busy.Mul(c, mixed(1, 50), mixed(2, 50))
		failed.Mul(c, mixed(1, 50), mixed(2, 51))
	}
	for _, f := range bothCalls() {
		for _, c := range everyByte() {
			want := f.behind(c, mixed(int(c), len(src)), src)
			for i, k := range []*Kernel{idle, busy, failed, New()} {
				dst := mixed(int(c), len(src))
				if e := f.run(k, c, dst, src); e != api.OK || !bytes.Equal(dst, want) {
					t.Fatalf("%s by %d of kernel %d: %d, %v in the place of %v", f.name, c, i, e, dst, want)
				}
				if e := f.run(k, c, dst, src[1:]); e != api.ErrLens {
					t.Fatalf("%s by %d of kernel %d, unlike lengths: %d", f.name, c, i, e)
				}
			}
		}
	}
}

// pairs: lengths of dst and src, like and unlike, also such as have the same number of whole words or the same tail.
func pairs() [][2]int {
	return [][2]int{{0, 0}, {0, 1}, {1, 0}, {1, 1}, {1, 2}, {3, 2}, {2, 3}, {0, 8}, {8, 0}, {7, 8}, {8, 8}, {8, 9}, {9, 8}, {15, 16}, {16, 8}, {8, 16}, {11, 19}, {64, 63}, {256, 255}, {300, 300}, {300, 0}, {0, 300}}
}

// TestErrors: ErrNil ahead of ErrLens, and with an error no byte is written, about the slices neither.
func TestErrors(t *testing.T) {
	k := New()
	for _, f := range bothCalls() {
		for _, c := range factors() {
			for _, p := range pairs() {
				dst, around := piece(11, mixed(p[0], p[0]))
				src, origin := piece(11, mixed(p[1]+1, p[1]))
				was, kept := bytes.Clone(around), bytes.Clone(origin)
				if e := f.run(nil, c, dst, src); e != api.ErrNil {
					t.Errorf("%s by %d of a nil kernel, %v bytes: %d", f.name, c, p, e)
				}
				if p[0] != p[1] {
					if e := f.run(k, c, dst, src); e != api.ErrLens {
						t.Errorf("%s by %d of %v bytes: %d", f.name, c, p, e)
					}
				}
				if !bytes.Equal(around, was) || !bytes.Equal(origin, kept) {
					t.Errorf("%s by %d of %v bytes has written beside an error", f.name, c, p)
				}
			}
		}
	}
}

// A nil list has the length 0, and so doesn't go with one that has bytes.
func TestNilBesideBytes(t *testing.T) {
	k := New()
	for _, f := range bothCalls() {
		for _, empty := range [][]byte{nil, {}} {
			list := []byte{5, 6}
			if e := f.run(k, 2, empty, list); e != api.ErrLens {
				t.Errorf("%s into no bytes: %d", f.name, e)
			}
			if e := f.run(k, 2, list, empty); e != api.ErrLens {
				t.Errorf("%s of no bytes: %d", f.name, e)
			}
			if e := f.run(nil, 2, empty, list); e != api.ErrNil {
				t.Errorf("%s of a nil kernel into no bytes: %d", f.name, e)
			}
			if e := f.run(nil, 2, empty, empty); e != api.ErrNil {
				t.Errorf("%s of a nil kernel and no bytes: %d", f.name, e)
			}
			if !bytes.Equal(list, []byte{5, 6}) {
				t.Errorf("%s has written beside an error: %v", f.name, list)
			}
		}
	}
}

// The same bytes, but not the same length: the error is told ahead of any writing.
func TestUnlikeLengthsOfOneArray(t *testing.T) {
	k := New()
	for _, f := range bothCalls() {
		array := mixed(9, 40)
		was := bytes.Clone(array)
		if e := f.run(k, 3, array[5:30], array[5:29]); e != api.ErrLens || !bytes.Equal(array, was) {
			t.Errorf("%s of unlike lengths in one array: %d, or bytes are written", f.name, e)
		}
	}
}

// Of a zero struct only that its calls end is promised.
func TestZeroStruct(t *testing.T) {
	k := &Kernel{}
	for _, f := range bothCalls() {
		for _, p := range pairs() {
			f.run(k, 7, make([]byte, p[0]), make([]byte, p[1]))
		}
	}
}

// Every call again behind all others, errors among them: the same.
func TestNothingIsKept(t *testing.T) {
	k := New()
	block := mixed(3, 64)
	for _, c := range everyByte() {
		word, list := Word(c, 0x8040201008040201), Columns(c)
		planes, _ := Planes(block)
		for _, f := range bothCalls() {
			dst, src := mixed(int(c), 43), mixed(int(c)+1, 43)
			want := f.behind(c, dst, src)
			again := bytes.Clone(dst)
			f.run(k, c, dst, src)
			f.run(k, c+1, mixed(1, 50), mixed(2, 50))
			f.run(k, c^0x55, mixed(1, 50), mixed(2, 51))
			f.run(nil, c, again, src)
			Word(c^0xAA, 1<<64-1)
			Columns(c ^ 0x33)
			Planes(mixed(int(c), 64))
			Block(mixedWords(int(c)))
			Planes(block[1:])
			Block(planes[1:])
			f.run(k, c, again, src)
			if !bytes.Equal(dst, want) || !bytes.Equal(again, want) {
				t.Fatalf("%s by %d: %v, then %v in the place of %v", f.name, c, dst, again, want)
			}
		}
		planesAgain, _ := Planes(block)
		blockAgain, _ := Block(planes)
		if Word(c, 0x8040201008040201) != word || !bytes.Equal(Columns(c), list) || !slices.Equal(planesAgain, planes) || !bytes.Equal(blockAgain, block) {
			t.Fatalf("Word, Columns, Planes or Block answers otherwise behind other calls, factor %d", c)
		}
	}
}

// What was handed in is the caller's behind the call: nothing that is done to it is seen, and nothing is done to it.
func TestArgumentsAreNotKept(t *testing.T) {
	k := New()
	for _, f := range bothCalls() {
		dst, src := mixed(5, 301), mixed(6, 301)
		f.run(k, 9, dst, src)
		first := bytes.Clone(dst)
		clear(src)
		if !bytes.Equal(dst, first) {
			t.Errorf("%s: dst hangs on src behind the call", f.name)
		}
		f.run(k, 200, mixed(7, 301), mixed(8, 301))
		if !bytes.Equal(dst, first) || !bytes.Equal(src, make([]byte, 301)) {
			t.Errorf("%s: a later call has changed an earlier one's lists", f.name)
		}
	}
}

// Calls at one time on one kernel, with factors of their own: each into bytes of its own that lie beside the others' and begin at any place of a word, all from the same source.
func TestCompany(t *testing.T) {
	k := New()
	src := mixed(11, 5003)
	kept := bytes.Clone(src)
	whole := mixed(12, 16*len(src))
	was := bytes.Clone(whole)
	calls := bothCalls()
	told := make([]api.Errno, 16)
	var all sync.WaitGroup
	for i := range told {
		all.Add(1)
		go func() {
			defer all.Done()
			told[i] = calls[i%2].run(k, byte(17*i), whole[i*len(src):(i+1)*len(src)], src)
		}()
	}
	all.Wait()
	for i, e := range told {
		from, to := i*len(src), (i+1)*len(src)
		want := calls[i%2].behind(byte(17*i), was[from:to], src)
		if e != api.OK || !bytes.Equal(whole[from:to], want) {
			t.Errorf("%s by %d in company: %d, or wrong bytes", calls[i%2].name, byte(17*i), e)
		}
	}
	if !bytes.Equal(src, kept) {
		t.Error("the source that all read is changed")
	}
}
