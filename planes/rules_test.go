package planes

import (
	"bytes"
	"slices"
	"sync"
	"testing"

	"cullet/api"
)

// P8.7, and what holds for all calls: P1, P8, the rules of the document, and the chapter's section 'Errors'.

// Each answer is turned over, its spare room too; the argument and a second answer stay as they are, and a third is as the second.
func isNew[A, B byte | uint16](t *testing.T, name string, argument []A, ask func([]A) []B) {
	t.Helper()
	was := slices.Clone(argument[:cap(argument)])
	first, second := ask(argument), ask(argument)
	whole := slices.Clone(second[:cap(second)])
	turnAll(first)
	if third := ask(argument); !slices.Equal(second[:cap(second)], whole) || !slices.Equal(third, second) || !slices.Equal(argument[:cap(argument)], was) {
		t.Errorf("an answer of %s shares memory with another or with the argument", name)
	}
	turnAll(argument)
	if !slices.Equal(second[:cap(second)], whole) {
		t.Errorf("an answer of %s hangs on the argument behind the call", name)
	}
}

func TestAnswersAreNewMemory(t *testing.T) {
	for _, n := range []int{0, 2, 4, 14, 200} {
		isNew(t, "Words", mixed(n, n), func(shard []byte) []uint16 { words, _ := Words(shard); return words })
		isNew(t, "Bytes", mixedWords(n, n), Bytes)
		isNew(t, "Split, low", mixed(n, n), func(shard []byte) []byte { low, _, _ := Split(shard); return low })
		isNew(t, "Split, high", mixed(n, n), func(shard []byte) []byte { _, high, _ := Split(shard); return high })
		isNew(t, "Merge, low", mixed(n, n), func(low []byte) []byte { shard, _ := Merge(low, mixed(1, n)); return shard })
		isNew(t, "Merge, high", mixed(n, n), func(high []byte) []byte { shard, _ := Merge(mixed(1, n), high); return shard })
		isNew(t, "Merge of one list", mixed(n, n), func(list []byte) []byte { shard, _ := Merge(list, list); return shard })
	}
}

func TestPlanesShareNoMemory(t *testing.T) {
	for _, n := range []int{2, 4, 14, 200} {
		shard := mixed(n, n)
		low, high, _ := Split(shard)
		wasHigh := bytes.Clone(high[:cap(high)])
		turnAll(low)
		if !bytes.Equal(high[:cap(high)], wasHigh) {
			t.Errorf("Split of %d bytes: what is done to the low plane is seen in the high one", n)
		}
		wasLow := bytes.Clone(low[:cap(low)])
		turnAll(high)
		if !bytes.Equal(low[:cap(low)], wasLow) {
			t.Errorf("Split of %d bytes: what is done to the high plane is seen in the low one", n)
		}
	}
}

// Each of the four lists is turned over alone, its spare room too; then the list of lists.
func TestQuartersAreNewMemory(t *testing.T) {
	for _, c := range factors() {
		for turned := range 4 {
			first, second := Quarters(c), Quarters(c)
			want := copies(second)
			others := copies(first)
			turnAll(first[turned])
			for q := range first {
				if q != turned && !slices.Equal(first[q][:cap(first[q])], others[q]) {
					t.Fatalf("lists %d and %d of Quarters(%#x) share memory", turned, q, c)
				}
			}
			clear(first[:cap(first)])
			if !slices.EqualFunc(copies(second), want, slices.Equal) || !slices.EqualFunc(copies(Quarters(c)), want, slices.Equal) {
				t.Fatalf("two answers of Quarters(%#x) share memory", c)
			}
		}
	}
}

// copies: the lists with their spare room, in memory of their own.
func copies(lists [][]uint16) [][]uint16 {
	all := make([][]uint16, len(lists))
	for i, list := range lists {
		all[i] = slices.Clone(list[:cap(list)])
	}
	return all
}

// Kernels that were made ahead of calls and behind them, that have worked and that have not: all answer alike.
func TestKernelsAnswerAlike(t *testing.T) {
	src := mixed(3, 100)
	idle, busy, failed := New(), New(), New()
	for _, c := range factors() {
		busy.Mul(c, mixed(1, 50), mixed(2, 50))
		failed.Mul(c, mixed(1, 50), mixed(2, 51))
		failed.MulAdd(c, mixed(1, 51), mixed(2, 51))
	}
	late := New()
	for _, f := range bothCalls() {
		for _, c := range factors() {
			want := f.behind(c, mixed(int(c), len(src)), src)
			for i, k := range []*Kernel{idle, busy, failed, late} {
				dst := mixed(int(c), len(src))
				if e := f.run(k, c, dst, src); e != api.OK || !bytes.Equal(dst, want) {
					t.Fatalf("%s by %#x of kernel %d: %d, %x in the place of %x", f.name, c, i, e, dst, want)
				}
			}
		}
	}
}

// pairs: lengths of dst and src: like and unlike, even and odd, and such as have the same number of whole words.
func pairs() [][2]int {
	return [][2]int{{0, 0}, {1, 1}, {2, 2}, {3, 3}, {7, 7}, {8, 8}, {63, 63}, {64, 64}, {65, 65}, {999, 999}, {0, 1}, {1, 0}, {0, 2}, {2, 0}, {1, 2}, {2, 1}, {1, 3}, {3, 1}, {2, 3}, {3, 2}, {2, 4}, {4, 2}, {4, 5}, {5, 4}, {64, 66}, {65, 63}, {300, 0}, {0, 300}, {301, 0}, {0, 301}, {65536, 65535}}
}

// told: the error that the chapter's list has for lengths of a kernel that isn't nil.
func told(p [2]int) api.Errno {
	if p[0] != p[1] {
		return api.ErrLens
	}
	if p[0]%2 == 1 {
		return api.ErrOdd
	}
	return api.OK
}

// ErrNil ahead of ErrLens, ErrLens ahead of ErrOdd; with an error no byte is written, about the slices neither.
func TestErrors(t *testing.T) {
	k := New()
	for _, f := range bothCalls() {
		for _, c := range factors() {
			for _, p := range pairs() {
				dst, around := piece(11, mixed(p[0], p[0]))
				src, origin := piece(11, mixed(p[1]+1, p[1]))
				was, kept := bytes.Clone(around), bytes.Clone(origin)
				if e := f.run(nil, c, dst, src); e != api.ErrNil {
					t.Errorf("%s by %#x of a nil kernel, %v bytes: %d", f.name, c, p, e)
				}
				if want := told(p); want != api.OK {
					if e := f.run(k, c, dst, src); e != want {
						t.Errorf("%s by %#x of %v bytes: %d in the place of %d", f.name, c, p, e, want)
					}
				}
				if !bytes.Equal(around, was) || !bytes.Equal(origin, kept) {
					t.Errorf("%s by %#x of %v bytes has written beside an error", f.name, c, p)
				}
			}
		}
	}
}

// A nil list has the length 0, and so doesn't go with one that has bytes.
func TestNilBesideBytes(t *testing.T) {
	k := New()
	for _, f := range bothCalls() {
		for _, empty := range [][]byte{nil, {}} {
			for n := 1; n <= 4; n++ {
				list := mixed(n, n)
				was := bytes.Clone(list)
				if e := f.run(k, 2, empty, list); e != api.ErrLens {
					t.Errorf("%s of %d bytes into none: %d", f.name, n, e)
				}
				if e := f.run(k, 2, list, empty); e != api.ErrLens {
					t.Errorf("%s of none into %d bytes: %d", f.name, n, e)
				}
				if e := f.run(nil, 2, empty, list); e != api.ErrNil {
					t.Errorf("%s of a nil kernel, %d bytes into none: %d", f.name, n, e)
				}
				if e := f.run(nil, 2, empty, empty); e != api.ErrNil {
					t.Errorf("%s of a nil kernel and no bytes: %d", f.name, e)
				}
				if !bytes.Equal(list, was) {
					t.Errorf("%s has written beside an error: %v", f.name, list)
				}
			}
		}
	}
}

// The same bytes, but of unlike or of odd lengths: the error is told ahead of any writing.
func TestErrorsWithinOneArray(t *testing.T) {
	k := New()
	for _, f := range bothCalls() {
		array := mixed(9, 40)
		was := bytes.Clone(array)
		if e := f.run(k, 3, array[5:31], array[5:29]); e != api.ErrLens || !bytes.Equal(array, was) {
			t.Errorf("%s of unlike lengths in one array: %d, or bytes are written", f.name, e)
		}
		if e := f.run(k, 3, array[5:30], array[5:30]); e != api.ErrOdd || !bytes.Equal(array, was) {
			t.Errorf("%s of an odd list and itself: %d, or bytes are written", f.name, e)
		}
		if e := f.run(k, 3, array[4:15], array[9:20]); e != api.ErrOdd || !bytes.Equal(array, was) {
			t.Errorf("%s of odd lists in one array: %d, or bytes are written", f.name, e)
		}
	}
}

// Of a zero struct, and of a copy, only that their calls end is promised.
func TestKernelsMadeOtherwise(t *testing.T) {
	copied := *New()
	for _, k := range []*Kernel{{}, &copied} {
		for _, f := range bothCalls() {
			for _, p := range pairs() {
				f.run(k, 7, make([]byte, p[0]), mixed(1, p[1]))
			}
		}
	}
}

// Every call again behind all others, errors among them: the same.
func TestNothingIsKept(t *testing.T) {
	k := New()
	shard := mixed(3, 64)
	for _, c := range append(mixedWords(9, 100), factors()...) {
		lists := Quarters(c)
		words, _ := Words(shard)
		low, high, _ := Split(shard)
		for _, f := range bothCalls() {
			dst, src := mixed(int(c), 44), mixed(int(c)+1, 44)
			want := f.behind(c, dst, src)
			again := bytes.Clone(dst)
			f.run(k, c, dst, src)
			f.run(k, c+1, mixed(1, 50), mixed(2, 50))
			f.run(k, c^0x5555, mixed(1, 50), mixed(2, 52))
			f.run(k, c^0x3333, mixed(1, 51), mixed(2, 51))
			f.run(nil, c, again, src)
			Quarters(c ^ 0x0F0F)
			Words(mixed(int(c), 64))
			Words(shard[1:])
			Split(mixed(int(c), 64))
			Split(shard[1:])
			Merge(high, low)
			Merge(high, low[1:])
			Bytes(mixedWords(int(c), 32))
			f.run(k, c, again, src)
			if !bytes.Equal(dst, want) || !bytes.Equal(again, want) {
				t.Fatalf("%s by %#x: %x, then %x in the place of %x", f.name, c, dst, again, want)
			}
		}
		wordsAgain, _ := Words(shard)
		lowAgain, highAgain, _ := Split(shard)
		merged, _ := Merge(low, high)
		if !slices.EqualFunc(Quarters(c), lists, slices.Equal) || !slices.Equal(wordsAgain, words) || !bytes.Equal(lowAgain, low) || !bytes.Equal(highAgain, high) || !bytes.Equal(merged, shard) || !bytes.Equal(Bytes(words), shard) {
			t.Fatalf("Quarters, Words, Split, Merge or Bytes answers otherwise behind other calls, factor %#x", c)
		}
	}
}

// What was handed in is the caller's behind the call: nothing that is done to it is seen, and nothing is done to it.
func TestArgumentsAreNotKept(t *testing.T) {
	k := New()
	for _, f := range bothCalls() {
		dst, src := mixed(5, 302), mixed(6, 302)
		f.run(k, 9, dst, src)
		first := bytes.Clone(dst)
		clear(src)
		if !bytes.Equal(dst, first) {
			t.Errorf("%s: dst hangs on src behind the call", f.name)
		}
		f.run(k, 200, mixed(7, 302), mixed(8, 302))
		if !bytes.Equal(dst, first) || !bytes.Equal(src, make([]byte, 302)) {
			t.Errorf("%s: a later call has changed an earlier one's lists", f.name)
		}
	}
}

// Calls at one time on one kernel, with factors of their own: each into bytes of its own that lie beside the others', all from the same source.
func TestCompany(t *testing.T) {
	k := New()
	src := mixed(11, 5002)
	kept := bytes.Clone(src)
	whole := mixed(12, 16*len(src)+1)[1:]
	was := bytes.Clone(whole)
	calls := bothCalls()
	answers := make([]api.Errno, 16)
	var all sync.WaitGroup
	for i := range answers {
		all.Add(1)
		go func() {
			defer all.Done()
			answers[i] = calls[i%2].run(k, uint16(4097*i), whole[i*len(src):(i+1)*len(src)], src)
		}()
	}
	all.Wait()
	for i, e := range answers {
		from, to := i*len(src), (i+1)*len(src)
		want := calls[i%2].behind(uint16(4097*i), was[from:to], src)
		if e != api.OK || !bytes.Equal(whole[from:to], want) {
			t.Errorf("%s by %#x in company: %d, or wrong bytes", calls[i%2].name, 4097*i, e)
		}
	}
	if !bytes.Equal(src, kept) {
		t.Error("the source that all read is changed")
	}
}
