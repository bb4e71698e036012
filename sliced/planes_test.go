package sliced

import (
	"bytes"
	"slices"
	"testing"

	"cullet/api"
)

// P7.5

func TestEachBitOfABlock(t *testing.T) {
	for j := range 64 {
		for b := range 8 {
			block := make([]byte, 64)
			block[j] = 1 << b
			planes := make([]uint64, 8)
			planes[b] = 1 << j
			if got, e := Planes(block); e != api.OK || !slices.Equal(got, planes) {
				t.Errorf("Planes of bit %d of byte %d: %d, %x", b, j, e, got)
			}
			if got, e := Block(planes); e != api.OK || !bytes.Equal(got, block) {
				t.Errorf("Block of bit %d of plane %d: %d, %v", j, b, e, got)
			}
		}
	}
}

// The same with all other bits set, so that a bit may not be lost beside others.
func TestEachBitMissing(t *testing.T) {
	for j := range 64 {
		for b := range 8 {
			block := bytes.Repeat([]byte{0xFF}, 64)
			block[j] ^= 1 << b
			planes := slices.Repeat([]uint64{1<<64 - 1}, 8)
			planes[b] ^= 1 << j
			if got, e := Planes(block); e != api.OK || !slices.Equal(got, planes) {
				t.Errorf("Planes without bit %d of byte %d: %d, %x", b, j, e, got)
			}
			if got, e := Block(planes); e != api.OK || !bytes.Equal(got, block) {
				t.Errorf("Block without bit %d of plane %d: %d, %v", j, b, e, got)
			}
		}
	}
}

func TestThereAndBack(t *testing.T) {
	for seed := range 300 {
		block, array := piece(seed%9, mixed(seed, 64))
		was := bytes.Clone(array)
		planes, e := Planes(block)
		if e != api.OK || !slices.Equal(planes, planesOf(block)) {
			t.Fatalf("Planes of block %d: %d, %x in the place of %x", seed, e, planes, planesOf(block))
		}
		kept := slices.Clone(planes)
		again, e := Block(planes)
		if e != api.OK || !bytes.Equal(again, block) {
			t.Fatalf("Block of the planes of block %d: %d, %v in the place of %v", seed, e, again, block)
		}
		if !bytes.Equal(array, was) || !slices.Equal(planes, kept) {
			t.Fatalf("what was handed in is changed, block %d", seed)
		}
	}
}

// Words of any contents are the planes of some block, the other way round as well.
func TestBackAndThere(t *testing.T) {
	for seed := range 300 {
		words := make([]uint64, 8)
		for b := range words {
			words[b] = joined(mixed(8*seed+b, 8))
		}
		block, e := Block(words)
		if e != api.OK || len(block) != 64 || !slices.Equal(planesOf(block), words) {
			t.Fatalf("Block of %x: %d, %v", words, e, block)
		}
		if again, e := Planes(block); e != api.OK || !slices.Equal(again, words) {
			t.Fatalf("Planes of the block of %x: %d, %x", words, e, again)
		}
	}
}

// Spare room that would make the length right doesn't count.
func TestOtherLengths(t *testing.T) {
	for _, n := range []int{0, 1, 7, 8, 9, 32, 63, 65, 72, 128, 512} {
		block := mixed(n, n+64)
		was := bytes.Clone(block)
		if got, e := Planes(block[:n]); e != api.ErrLens || len(got) != 0 || !bytes.Equal(block, was) {
			t.Errorf("Planes of %d bytes: %d, %x, or the block is changed", n, e, got)
		}
	}
	for _, n := range []int{0, 1, 6, 7, 9, 16, 63, 64, 65, 512} {
		words := make([]uint64, n+8)
		for i := range words {
			words[i] = uint64(i) * 0x9E3779B97F4A7C15
		}
		was := slices.Clone(words)
		if got, e := Block(words[:n]); e != api.ErrLens || len(got) != 0 || !slices.Equal(words, was) {
			t.Errorf("Block of %d words: %d, %v, or the words are changed", n, e, got)
		}
	}
	if got, e := Planes(nil); e != api.ErrLens || len(got) != 0 {
		t.Errorf("Planes of nil: %d, %x", e, got)
	}
	if got, e := Block(nil); e != api.ErrLens || len(got) != 0 {
		t.Errorf("Block of nil: %d, %v", e, got)
	}
}

func TestPlanesAreNewMemory(t *testing.T) {
	block := mixed(5, 64)
	was := bytes.Clone(block)
	first, _ := Planes(block)
	second, _ := Planes(block)
	whole := slices.Clone(second[:cap(second)])
	turnAll(first)
	third, _ := Planes(block)
	if !slices.Equal(second[:cap(second)], whole) || !slices.Equal(third, second) || !bytes.Equal(block, was) {
		t.Errorf("an answer of Planes shares memory: %x, %x", second, third)
	}
	turnAll(block)
	if !slices.Equal(second, planesOf(was)) {
		t.Errorf("an answer of Planes hangs on the block behind the call: %x", second)
	}
}

func TestBlockIsNewMemory(t *testing.T) {
	planes := planesOf(mixed(6, 64))
	was := slices.Clone(planes)
	first, _ := Block(planes)
	second, _ := Block(planes)
	whole := bytes.Clone(second[:cap(second)])
	turnAll(first)
	third, _ := Block(planes)
	if !bytes.Equal(second[:cap(second)], whole) || !bytes.Equal(third, second) || !slices.Equal(planes, was) {
		t.Errorf("an answer of Block shares memory: %v, %v", second, third)
	}
	turnAll(planes)
	if !slices.Equal(planesOf(second), was) {
		t.Errorf("an answer of Block hangs on the planes behind the call: %v", second)
	}
}

// The chapter's examples.

func TestExamplesOfPlanes(t *testing.T) {
	const all = 1<<64 - 1
	if got, e := Planes(bytes.Repeat([]byte{0x81}, 64)); e != api.OK || !slices.Equal(got, []uint64{all, 0, 0, 0, 0, 0, 0, all}) {
		t.Errorf("example 8: %d %x", e, got)
	}
	block := make([]byte, 64)
	block[63] = 1
	if got, e := Planes(block); e != api.OK || !slices.Equal(got, []uint64{0x8000000000000000, 0, 0, 0, 0, 0, 0, 0}) {
		t.Errorf("example 9: %d %x", e, got)
	}
	block = make([]byte, 64)
	block[0], block[1] = 1, 0x80
	if got, e := Block([]uint64{1, 0, 0, 0, 0, 0, 0, 2}); e != api.OK || !bytes.Equal(got, block) {
		t.Errorf("example 10: %d %v", e, got)
	}
}
