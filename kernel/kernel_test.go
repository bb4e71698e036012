package kernel

import (
	"bytes"
	"math"
	"testing"

	"cullet/api"
	"cullet/gf8"
	"cullet/nibble"
	"cullet/sliced"
	"cullet/table"
)

// P9.1

func TestNewAtEveryNumber(t *testing.T) {
	numbers := []api.Backend{99, 100, 127, 128, 255, 256, 257, 258, 1 << 16, 1<<16 + 1, 1 << 32, 1<<32 + 1, 1<<32 + 2, -255, -256, -1 << 32, math.MaxInt32, math.MinInt32, math.MaxInt, math.MaxInt - 1, math.MinInt, math.MinInt + 1, math.MinInt + 2}
	for b := api.Backend(-2); b <= 9; b++ {
		numbers = append(numbers, b)
	}
	for _, b := range numbers {
		s, e := New(b)
		if b == 0 || b == 1 || b == 2 {
			if s == nil || e != api.OK || s.Backend() != b {
				t.Errorf("New(%d): %v, %d", b, s, e)
			}
		} else if s != nil || e != api.ErrBackend {
			t.Errorf("New(%d): %v, %d", b, s, e)
		}
	}
}

func TestBackendOfEachSet(t *testing.T) {
	var none *Set
	if b := none.Backend(); b != -1 {
		t.Errorf("Backend of a nil set: %d", b)
	}
	var sets []*Set
	for range 3 {
		for _, b := range backends() {
			s, _ := New(b)
			sets = append(sets, s)
		}
	}
	for i, s := range sets {
		s.Mul(7, mixed(1, 20), mixed(2, 20))
		s.Mul(7, mixed(1, 20), mixed(2, 21))
		if want := backends()[i%3]; s.Backend() != want || s.Backend() != want {
			t.Errorf("Backend of a set of %d: %d", want, s.Backend())
		}
		for j := range i {
			if sets[j] == s {
				t.Errorf("New has answered the set %d anew as the set %d", j, i)
			}
		}
	}
}

// The kernel of the set is the one of the layer that its backend names.
func TestKernelOfEachSet(t *testing.T) {
	each(t, func(t *testing.T, s *Set) {
		got := api.Backend(-1)
		switch s.Kernel.(type) {
		case *table.Kernel:
			got = api.Table
		case *nibble.Kernel:
			got = api.Nibble
		case *sliced.Kernel:
			got = api.Sliced
		}
		if got != s.Backend() {
			t.Errorf("the kernel is that of %d, the set of %d", got, s.Backend())
		}
	})
}

// tried: a kernel of the test's own, which notes the factors that it is called with.
type tried struct {
	factors []byte
	Kernel
}

func (k *tried) Mul(c byte, dst, src []byte) api.Errno {
	k.factors = append(k.factors, c)
	return k.Kernel.Mul(c, dst, src)
}

func (k *tried) MulAdd(c byte, dst, src []byte) api.Errno {
	k.factors = append(k.factors, c)
	return k.Kernel.MulAdd(c, dst, src)
}

// What works out the products is the kernel that stands in the set, whichever it is.
func TestEachCallAsksTheKernel(t *testing.T) {
	each(t, func(t *testing.T, s *Set) {
		k := &tried{Kernel: s.Kernel}
		own := &Set{chosen{k, s.Backend()}}
		rows, srcs, dsts := [][]byte{{201, 203}, {205, 207}}, mixedLists(1, 2, 9), mixedLists(9, 2, 9)
		span := api.Span{To: 9}
		for name, run := range map[string]func(){
			"Mul":    func() { own.Mul(201, dsts[0], srcs[0]) },
			"MulAdd": func() { own.MulAdd(201, dsts[0], srcs[0]) },
			"Dot":    func() { own.Dot(rows[0], srcs, dsts[0]) },
			"Apply":  func() { own.Apply(rows, srcs, dsts, span) },
			"Agrees": func() { own.Agrees(rows, srcs, dsts, span) },
			"Spread": func() { own.Spread([]byte{201, 203}, srcs[0], dsts, span) },
		} {
			k.factors = nil
			run()
			if !bytes.Contains(k.factors, []byte{201}) {
				t.Errorf("%s has not asked the kernel of its set: %d", name, k.factors)
			}
		}
	})
}

// All sets answer alike: the three backends side by side, at every call, every error among them.
func TestSetsAnswerAlike(t *testing.T) {
	first, _ := New(api.Table)
	for _, b := range []api.Backend{api.Nibble, api.Sliced} {
		other, _ := New(b)
		for round := range 400 {
			numbers := mixed(round, 8)
			n, count, parts := int(numbers[0])%40, int(numbers[1])%5, int(numbers[2])%5
			span := api.Span{From: int(numbers[3])%(n+3) - 1, To: int(numbers[4])%(n+3) - 1 + int(numbers[4])%2}
			rows, srcs := mixedLists(round, parts, count), mixedLists(round+7, count, n)
			if numbers[5]%8 == 0 {
				srcs = append(srcs, mixed(round, n+1))
			}
			one, two := mixedLists(round+9, parts, n), mixedLists(round+9, parts, n)
			if e, f := first.Apply(rows, srcs, one, span), other.Apply(rows, srcs, two, span); e != f || !alike(one, two) {
				t.Fatalf("Apply of two sets, %d sources of %d bytes, %v: %d and %d, %x and %x", count, n, span, e, f, one, two)
			}
			ok, e := first.Agrees(rows, srcs, one, span)
			also, f := other.Agrees(rows, srcs, two, span)
			if ok != also || e != f {
				t.Fatalf("Agrees of two sets, %d sources of %d bytes, %v: %v %d and %v %d", count, n, span, ok, e, also, f)
			}
			for _, src := range srcs {
				if e, f := first.Spread(mixed(round, parts), src, one, span), other.Spread(mixed(round, parts), src, two, span); e != f || !alike(one, two) {
					t.Fatalf("Spread of two sets, %d bytes, %v: %d and %d, %x and %x", n, span, e, f, one, two)
				}
			}
			for r := range rows {
				if e, f := first.Dot(rows[r], srcs, one[r]), other.Dot(rows[r], srcs, two[r]); e != f || !alike(one, two) {
					t.Fatalf("Dot of two sets, %d sources of %d bytes: %d and %d, %x and %x", count, n, e, f, one, two)
				}
			}
			for _, call := range bothCalls() {
				one, two := mixed(round+3, n), mixed(round+3, n)
				src := mixed(round+4, n+int(numbers[6])%16/15)
				if e, f := call.run(first, numbers[7], one, src), call.run(other, numbers[7], two, src); e != f || !bytes.Equal(one, two) {
					t.Fatalf("%s of two sets by %d, %d bytes: %d and %d, %x and %x", call.name, numbers[7], n, e, f, one, two)
				}
			}
		}
	}
}

// P9.2

func TestProductsOfEveryPair(t *testing.T) {
	each(t, func(t *testing.T, s *Set) {
		src := everyByte()
		for c := range 256 {
			dst := mixed(c, 256)
			was := bytes.Clone(dst)
			if e := s.Mul(byte(c), dst, src); e != api.OK {
				t.Fatalf("Mul by %d: %d", c, e)
			}
			added := bytes.Clone(was)
			if e := s.MulAdd(byte(c), added, src); e != api.OK {
				t.Fatalf("MulAdd by %d: %d", c, e)
			}
			for i, x := range src {
				if want := gf8.Mul(byte(c), x); want != product(byte(c), x) || dst[i] != want || added[i] != was[i]^want {
					t.Fatalf("%d times %d is %d: Mul has %d, MulAdd to %d has %d", c, x, want, dst[i], was[i], added[i])
				}
			}
		}
		if !bytes.Equal(src, everyByte()) {
			t.Error("src is changed")
		}
	})
}

// Every length, within greater arrays that begin anywhere: nothing but dst is changed.
func TestProductsAtAllLengths(t *testing.T) {
	each(t, func(t *testing.T, s *Set) {
		for _, f := range callsOfTwo() {
			for _, n := range lengths() {
				for _, c := range factors() {
					src, origin := piece(int(c)%9, mixed(n, n))
					dst, around := piece(int(c)%7, mixed(n+1, n))
					kept, want := bytes.Clone(origin), bytes.Clone(around)
					copy(want[int(c)%7:], f.behind(c, dst, src))
					if e := f.run(s, c, dst, src); e != api.OK {
						t.Fatalf("%s by %d of %d bytes: %d", f.name, c, n, e)
					}
					if !bytes.Equal(around, want) {
						t.Fatalf("%s by %d of %d bytes: wrong bytes in dst or about it", f.name, c, n)
					}
					if !bytes.Equal(origin, kept) {
						t.Fatalf("%s by %d of %d bytes: src or what is about it is changed", f.name, c, n)
					}
				}
			}
		}
	})
}

func TestXorOfEveryPair(t *testing.T) {
	for x := range 256 {
		dst := everyByte()
		if e := Xor(dst, bytes.Repeat([]byte{byte(x)}, 256)); e != api.OK {
			t.Fatalf("Xor: %d", e)
		}
		for i, y := range dst {
			if y != byte(i^x) {
				t.Fatalf("Xor of %d and %d: %d", i, x, y)
			}
		}
	}
}

// Both are the very same bytes: those of before the call are read.
func TestProductsOfOneSlice(t *testing.T) {
	each(t, func(t *testing.T, s *Set) {
		for _, f := range callsOfTwo() {
			for _, n := range lengths() {
				for _, c := range factors() {
					list, array := piece(int(c)%9, mixed(n+5, n))
					want := bytes.Clone(array)
					copy(want[int(c)%9:], f.behind(c, list, list))
					if e := f.run(s, c, list, list); e != api.OK || !bytes.Equal(array, want) {
						t.Fatalf("%s by %d of %d bytes and themselves: %d, or wrong bytes", f.name, c, n, e)
					}
				}
			}
			// The same bytes with another capacity are the same bytes.
			list := mixed(8, 30)
			want := f.behind(9, list[:21], list[:21])
			if e := f.run(s, 9, list[:21:21], list[:21]); e != api.OK || !bytes.Equal(list[:21], want) || !bytes.Equal(list[21:], mixed(8, 30)[21:]) {
				t.Errorf("%s of one slice with two capacities: %d, %x in the place of %x", f.name, e, list[:21], want)
			}
		}
	})
}

func TestProductsOfNothing(t *testing.T) {
	each(t, func(t *testing.T, s *Set) {
		lists := [][]byte{nil, {}, mixed(1, 9)[:0], mixed(1, 9)[4:4]}
		for _, f := range callsOfTwo() {
			for _, dst := range lists {
				for _, src := range lists {
					if e := f.run(s, 3, dst, src); e != api.OK {
						t.Errorf("%s of no bytes: %d", f.name, e)
					}
				}
			}
		}
		if !bytes.Equal(lists[2][:9], mixed(1, 9)) || !bytes.Equal(lists[3][:5], mixed(1, 9)[4:]) {
			t.Error("spare room is written")
		}
	})
}

// The chapter's examples.

func TestExampleOfNew(t *testing.T) {
	if s, e := New(api.Nibble); s == nil || e != api.OK {
		t.Errorf("example 1: New(Nibble): %v, %d", s, e)
	}
	for _, b := range []api.Backend{api.Direct, -1, 99} {
		if s, e := New(b); s != nil || e != api.ErrBackend {
			t.Errorf("example 1: New(%d): %v, %d", b, s, e)
		}
	}
}

func TestExamplesOfSums(t *testing.T) {
	each(t, func(t *testing.T, s *Set) {
		dst := []byte{9, 9}
		if e := s.Dot([]byte{1, 2}, [][]byte{{3, 0}, {1, 128}}, dst); e != api.OK || !bytes.Equal(dst, []byte{1, 29}) {
			t.Errorf("example 2: %d %d", e, dst)
		}
		if e := s.Dot([]byte{1}, [][]byte{}, dst); e != api.ErrLens || !bytes.Equal(dst, []byte{1, 29}) {
			t.Errorf("example 2, a factor and no slice: %d %d", e, dst)
		}
		if e := s.Dot([]byte{}, [][]byte{}, dst); e != api.OK || !bytes.Equal(dst, []byte{0, 0}) {
			t.Errorf("example 2, no slice: %d %d", e, dst)
		}
		rows, srcs, dsts := [][]byte{{1, 1}, {1, 2}}, [][]byte{{1, 2, 3}, {4, 5, 6}}, [][]byte{{9, 9, 9}, {9, 9, 9}}
		if e := s.Apply(rows, srcs, dsts, api.Span{From: 1, To: 2}); e != api.OK || !alike(dsts, [][]byte{{9, 7, 9}, {9, 8, 9}}) {
			t.Errorf("example 3: %d %d", e, dsts)
		}
		for _, c := range []struct {
			span api.Span
			ok   bool
			e    api.Errno
		}{{api.Span{From: 1, To: 2}, true, api.OK}, {api.Span{From: 0, To: 2}, false, api.OK}, {api.Span{From: 2, To: 2}, true, api.OK}, {api.Span{From: 2, To: 4}, false, api.ErrRange}, {api.Span{From: 2, To: 1}, false, api.ErrRange}} {
			if ok, e := s.Agrees(rows, srcs, dsts, c.span); ok != c.ok || e != c.e {
				t.Errorf("example 4, %v: %v %d", c.span, ok, e)
			}
		}
		dsts = [][]byte{{0, 0, 0}, {1, 1, 1}}
		if e := s.Spread([]byte{1, 2}, []byte{0, 5, 0}, dsts, api.Span{From: 0, To: 3}); e != api.OK || !alike(dsts, [][]byte{{0, 5, 0}, {1, 11, 1}}) {
			t.Errorf("example 5: %d %d", e, dsts)
		}
		if e := s.Apply(nil, nil, nil, api.Span{}); e != api.OK {
			t.Errorf("example 6, nothing: %d", e)
		}
		if e := s.Apply(nil, nil, nil, api.Span{To: 1}); e != api.ErrRange {
			t.Errorf("example 6, beyond nothing: %d", e)
		}
		dsts = [][]byte{{7, 7}}
		if e := s.Apply([][]byte{{}}, nil, dsts, api.Span{To: 1}); e != api.OK || !alike(dsts, [][]byte{{0, 7}}) {
			t.Errorf("example 6, no slices: %d %d", e, dsts)
		}
	})
}
