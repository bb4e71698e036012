package planes

import (
	"bytes"
	"slices"
	"testing"

	"cullet/api"
	"cullet/gf16"
)

// P8.4

func TestWordsAndBytesOfEveryWord(t *testing.T) {
	shard := shardOf(everyWord()...)
	if words, e := Words(shard); e != api.OK || !slices.Equal(words, everyWord()) {
		t.Errorf("Words of every word's bytes: %d, or wrong words", e)
	}
	if got := Bytes(everyWord()); !bytes.Equal(got, shard) {
		t.Error("Bytes of every word: wrong bytes")
	}
}

func TestWordsThereAndBack(t *testing.T) {
	for _, n := range lengths() {
		for ahead := range 3 {
			shard, array := piece(ahead, mixed(n, n))
			was := bytes.Clone(array)
			words, e := Words(shard)
			if e != api.OK || len(words) != n/2 {
				t.Fatalf("Words of %d bytes: %d, %d words", n, e, len(words))
			}
			for i, w := range words {
				if w != wordAt(shard, i) {
					t.Fatalf("Words of %d bytes: word %d is %#x in the place of %#x", n, i, w, wordAt(shard, i))
				}
			}
			if again := Bytes(words); !bytes.Equal(again, shard) {
				t.Fatalf("Bytes of the words of %d bytes: other bytes", n)
			}
			if !bytes.Equal(array, was) {
				t.Fatalf("Words of %d bytes has changed what it was given", n)
			}
		}
	}
}

func TestBytesThereAndBack(t *testing.T) {
	for n := range 60 {
		array := mixedWords(n, n+9)
		was := slices.Clone(array)
		words := array[2 : 2+n]
		shard := Bytes(words)
		if !bytes.Equal(shard, shardOf(words...)) {
			t.Fatalf("Bytes of %x: %x", words, shard)
		}
		if again, e := Words(shard); e != api.OK || !slices.Equal(again, words) {
			t.Fatalf("Words of the bytes of %x: %d, %x", words, e, again)
		}
		if !slices.Equal(array, was) {
			t.Fatalf("Bytes of %d words has changed what it was given", n)
		}
	}
}

// P8.5

func TestSplitThereAndBack(t *testing.T) {
	for _, n := range append(lengths(), 131072) {
		for ahead := range 3 {
			shard, array := piece(ahead, mixed(n, n))
			was := bytes.Clone(array)
			low, high, e := Split(shard)
			if e != api.OK || len(low) != n/2 || len(high) != n/2 {
				t.Fatalf("Split of %d bytes: %d, %d and %d bytes", n, e, len(low), len(high))
			}
			for i := range low {
				if w := wordAt(shard, i); low[i] != byte(w%256) || high[i] != byte(w/256) {
					t.Fatalf("Split of %d bytes: word %#x has become %x and %x", n, w, low[i], high[i])
				}
			}
			if again, e := Merge(low, high); e != api.OK || !bytes.Equal(again, shard) {
				t.Fatalf("Merge of the planes of %d bytes: %d, or other bytes", n, e)
			}
			if !bytes.Equal(array, was) {
				t.Fatalf("Split of %d bytes has changed what it was given", n)
			}
		}
	}
}

func TestMergeThereAndBack(t *testing.T) {
	for n := range 60 {
		low, lows := piece(3, mixed(n, n))
		high, highs := piece(4, mixed(n+1, n))
		wasLow, wasHigh := bytes.Clone(lows), bytes.Clone(highs)
		shard, e := Merge(low, high)
		if e != api.OK || len(shard) != 2*n {
			t.Fatalf("Merge of %d and %d bytes: %d, %d bytes", n, n, e, len(shard))
		}
		for i := range low {
			if wordAt(shard, i) != uint16(low[i])+256*uint16(high[i]) {
				t.Fatalf("Merge of %x and %x: %x", low, high, shard)
			}
		}
		if a, b, e := Split(shard); e != api.OK || !bytes.Equal(a, low) || !bytes.Equal(b, high) {
			t.Fatalf("Split of the merged %x and %x: %d, %x and %x", low, high, e, a, b)
		}
		if !bytes.Equal(lows, wasLow) || !bytes.Equal(highs, wasHigh) {
			t.Fatalf("Merge of %d bytes has changed what it was given", n)
		}
	}
}

// The planes of a shard and its words are of one mind.
func TestPlanesByWords(t *testing.T) {
	shard := mixed(8, 2000)
	words, _ := Words(shard)
	low, high, _ := Split(shard)
	for i, w := range words {
		if uint16(low[i])|uint16(high[i])<<8 != w {
			t.Fatalf("word %d is %#x, its planes have %x and %x", i, w, low[i], high[i])
		}
	}
	merged, _ := Merge(low, high)
	if !bytes.Equal(merged, Bytes(words)) {
		t.Error("Merge of the planes and Bytes of the words are unlike")
	}
}

// One list may be both planes.
func TestMergeOfOneListTwice(t *testing.T) {
	list := mixed(9, 40)
	was := bytes.Clone(list)
	shard, e := Merge(list, list)
	if e != api.OK || len(shard) != 80 || !bytes.Equal(list, was) {
		t.Fatalf("Merge of a list and itself: %d, %x", e, shard)
	}
	for i, x := range list {
		if shard[2*i] != x || shard[2*i+1] != x {
			t.Fatalf("Merge of a list and itself: %x", shard)
		}
	}
}

func TestPacksOfNothing(t *testing.T) {
	spare := mixed(1, 6)
	for _, empty := range [][]byte{nil, {}, spare[:0]} {
		if words, e := Words(empty); e != api.OK || len(words) != 0 {
			t.Errorf("Words of nothing: %d, %x", e, words)
		}
		if low, high, e := Split(empty); e != api.OK || len(low) != 0 || len(high) != 0 {
			t.Errorf("Split of nothing: %d, %x and %x", e, low, high)
		}
		for _, other := range [][]byte{nil, {}, spare[:0]} {
			if shard, e := Merge(empty, other); e != api.OK || len(shard) != 0 {
				t.Errorf("Merge of nothing: %d, %x", e, shard)
			}
		}
	}
	for _, empty := range [][]uint16{nil, {}, make([]uint16, 0, 5)} {
		if shard := Bytes(empty); len(shard) != 0 {
			t.Errorf("Bytes of nothing: %x", shard)
		}
	}
}

// Spare room that would make the length even doesn't count.
func TestOddLengths(t *testing.T) {
	for _, n := range []int{1, 3, 5, 7, 9, 15, 17, 63, 65, 255, 999, 65535} {
		array := mixed(n, n+20)
		was := bytes.Clone(array)
		for _, shard := range [][]byte{array[:n], array[1 : 1+n], array[:n:n]} {
			if words, e := Words(shard); e != api.ErrOdd || len(words) != 0 {
				t.Errorf("Words of %d bytes: %d, %d words", n, e, len(words))
			}
			if low, high, e := Split(shard); e != api.ErrOdd || len(low) != 0 || len(high) != 0 {
				t.Errorf("Split of %d bytes: %d, %d and %d bytes", n, e, len(low), len(high))
			}
		}
		if !bytes.Equal(array, was) {
			t.Errorf("%d bytes: what was handed in is changed", n)
		}
	}
}

func TestMergeOfUnlikeLengths(t *testing.T) {
	for _, p := range [][2]int{{0, 1}, {1, 0}, {1, 2}, {2, 1}, {2, 4}, {4, 2}, {7, 8}, {100, 99}, {300, 0}, {0, 300}} {
		low, high := mixed(p[0], p[0]+400), mixed(p[1]+1, p[1]+400)
		wasLow, wasHigh := bytes.Clone(low), bytes.Clone(high)
		if shard, e := Merge(low[:p[0]], high[:p[1]]); e != api.ErrLens || len(shard) != 0 {
			t.Errorf("Merge of %d and %d bytes: %d, %x", p[0], p[1], e, shard)
		}
		if !bytes.Equal(low, wasLow) || !bytes.Equal(high, wasHigh) {
			t.Errorf("Merge of %d and %d bytes has changed what it was given", p[0], p[1])
		}
	}
	if shard, e := Merge([]byte{1}, nil); e != api.ErrLens || len(shard) != 0 {
		t.Errorf("Merge of a byte and nil: %d, %x", e, shard)
	}
	if shard, e := Merge(nil, []byte{1}); e != api.ErrLens || len(shard) != 0 {
		t.Errorf("Merge of nil and a byte: %d, %x", e, shard)
	}
}

// P8.6

func TestQuartersOfManyFactors(t *testing.T) {
	for _, c := range append(mixedWords(1, 3000), factors()...) {
		lists := Quarters(c)
		if len(lists) != 4 {
			t.Fatalf("Quarters(%#x) has %d lists", c, len(lists))
		}
		unit := uint16(1)
		for q, list := range lists {
			if len(list) != 16 {
				t.Fatalf("list %d of Quarters(%#x) has %d words", q, c, len(list))
			}
			for n, w := range list {
				x := uint16(n) * unit
				if w != product(c, x) || w != gf16.Mul(c, x) {
					t.Fatalf("list %d of Quarters(%#x) has %#x at %d in the place of %#x", q, c, w, n, product(c, x))
				}
			}
			unit *= 16
		}
	}
}

// The product by a word is the sum of those by its quarters: the kernel and the lists are of one mind.
func TestQuartersMakeProducts(t *testing.T) {
	k := New()
	src := mixed(5, 2*500)
	for _, c := range factors() {
		lists := Quarters(c)
		dst := make([]byte, len(src))
		k.Mul(c, dst, src)
		for i := range len(src) / 2 {
			x := wordAt(src, i)
			if sum := lists[0][x%16] ^ lists[1][x/16%16] ^ lists[2][x/256%16] ^ lists[3][x/4096]; sum != wordAt(dst, i) {
				t.Fatalf("%#x times %#x: %#x by the lists, %#x by Mul", c, x, sum, wordAt(dst, i))
			}
		}
	}
}

// The chapter's examples.

func TestExamplesOfPacks(t *testing.T) {
	if low, high, e := Split([]byte{1, 2, 3, 4}); e != api.OK || !bytes.Equal(low, []byte{1, 3}) || !bytes.Equal(high, []byte{2, 4}) {
		t.Errorf("example 1, Split: %d %v %v", e, low, high)
	}
	if low, high, e := Split([]byte{1, 2, 3}); e != api.ErrOdd || len(low) != 0 || len(high) != 0 {
		t.Errorf("example 1, Split of three: %d %v %v", e, low, high)
	}
	if low, high, e := Split(nil); e != api.OK || len(low) != 0 || len(high) != 0 {
		t.Errorf("example 1, Split of nothing: %d %v %v", e, low, high)
	}
	if shard, e := Merge([]byte{1, 3}, []byte{2, 4}); e != api.OK || !bytes.Equal(shard, []byte{1, 2, 3, 4}) {
		t.Errorf("example 1, Merge: %d %v", e, shard)
	}
	if shard, e := Merge([]byte{1}, []byte{}); e != api.ErrLens || len(shard) != 0 {
		t.Errorf("example 1, Merge of 1 and nothing: %d %v", e, shard)
	}
	if words, e := Words([]byte{1, 2, 3, 4}); e != api.OK || !slices.Equal(words, []uint16{0x0201, 0x0403}) {
		t.Errorf("example 2, Words: %d %x", e, words)
	}
	if shard := Bytes([]uint16{0x0201}); !bytes.Equal(shard, []byte{1, 2}) {
		t.Errorf("example 2, Bytes: %v", shard)
	}
}

func TestExampleOfQuarters(t *testing.T) {
	lists := Quarters(2)
	if len(lists) != 4 || len(lists[3]) != 16 {
		t.Fatalf("example 3: %x", lists)
	}
	if !slices.Equal(lists[0], []uint16{0, 2, 4, 6, 8, 10, 12, 14, 16, 18, 20, 22, 24, 26, 28, 30}) {
		t.Errorf("example 3, list 0: %d", lists[0])
	}
	if !slices.Equal(lists[3][:10], []uint16{0, 0x2000, 0x4000, 0x6000, 0x8000, 0xA000, 0xC000, 0xE000, 0x002D, 0x202D}) {
		t.Errorf("example 3, list 3: %x", lists[3])
	}
}
