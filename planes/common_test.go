package planes

import "cullet/api"

// What the tests hold the package against is worked out here bit by bit, as layer 3's chapter defines it, without a call of the package or of the layers below.

// product: the remainder by 0x1002D of the product of two polynomials, the whole product first.
func product(a, b uint16) uint16 {
	whole := uint64(0)
	for i := range 16 {
		if a>>i&1 == 1 {
			whole ^= uint64(b) << i
		}
	}
	for i := 30; i >= 16; i-- {
		if whole>>i&1 == 1 {
			whole ^= 0x1002D << (i - 16)
		}
	}
	return uint16(whole)
}

// wordAt: word t of a shard, in the chapter's words.
func wordAt(shard []byte, t int) uint16 { return uint16(shard[2*t]) + 256*uint16(shard[2*t+1]) }

// shardOf: the bytes of words, the low one of each first.
func shardOf(words ...uint16) []byte {
	shard := []byte{}
	for _, w := range words {
		shard = append(shard, byte(w%256), byte(w/256))
	}
	return shard
}

// call: one of the two products of shards, and what it must leave at a place that had the word was.
type call struct {
	name string
	run  func(k *Kernel, c uint16, dst, src []byte) api.Errno
	left func(c, was, x uint16) uint16
}

func bothCalls() []call {
	return []call{
		{"Mul", (*Kernel).Mul, func(c, was, x uint16) uint16 { return product(c, x) }},
		{"MulAdd", (*Kernel).MulAdd, func(c, was, x uint16) uint16 { return was ^ product(c, x) }},
	}
}

// behind: the bytes that must stand in dst behind a call, in memory of their own.
func (f call) behind(c uint16, dst, src []byte) []byte {
	words := make([]uint16, len(src)/2)
	for t := range words {
		words[t] = f.left(c, wordAt(dst, t), wordAt(src, t))
	}
	return shardOf(words...)
}

// everyWord: the 65536 elements.
func everyWord() []uint16 {
	list := make([]uint16, 65536)
	for i := range list {
		list[i] = uint16(i)
	}
	return list
}

// factors: nought, one, the single bits, some below 16, 256 and 4096, great ones, and some inverses of one another.
func factors() []uint16 {
	list := []uint16{0, 1, 3, 7, 15, 17, 29, 0x5A, 0xFF, 0x101, 0x123, 0xFFF, 0x1001, 0x1234, 0x1E79, 0x8016, 0xABCD, 0xACCA, 0xACCB, 0xFF00, 0xFFFE, 0xFFFF}
	for b := 1; b < 16; b++ {
		list = append(list, 1<<b)
	}
	return list
}

// lengths: all even ones from 0 to 100, and some great ones.
func lengths() []int {
	var list []int
	for n := 0; n <= 100; n += 2 {
		list = append(list, n)
	}
	return append(list, 126, 128, 130, 510, 512, 514, 1000, 4094, 4096, 4098, 20002)
}

// mixed: n bytes that look like no pattern, others for each seed; each value stands in a long list.
func mixed(seed, n int) []byte {
	state := uint32(seed)*2654435761 + 12345
	list := make([]byte, n)
	for i := range list {
		state = state*1664525 + 1013904223
		list[i] = byte(state >> 24)
	}
	return list
}

// mixedWords: n words that look like no pattern.
func mixedWords(seed, n int) []uint16 {
	list := make([]uint16, n)
	for t := range list {
		list[t] = wordAt(mixed(seed+t, 2), 0)
	}
	return list
}

// piece: the bytes within a greater array, so many other bytes ahead of them and 19 in the spare room behind them; and that array.
func piece(ahead int, content []byte) (middle, array []byte) {
	array = mixed(len(content)+ahead+77, ahead+len(content)+19)
	copy(array[ahead:], content)
	return array[ahead : ahead+len(content)], array
}

// turnAll: every bit of a list and of its spare room becomes the other one.
func turnAll[T byte | uint16](list []T) {
	whole := list[:cap(list)]
	for i := range whole {
		whole[i] = ^whole[i]
	}
}
