package sliced

import "cullet/api"

// What the tests hold the package against is worked out here bit by bit, as layer 2's chapter defines it, without a call of the package or of the layers below.

// product: the remainder by 0x11D of the product of two polynomials, the whole product first.
func product(a, b byte) byte {
	whole := 0
	for i := range 8 {
		for j := range 8 {
			whole ^= int(a>>i&1&(b>>j&1)) << (i + j)
		}
	}
	for i := 14; i >= 8; i-- {
		if whole>>i&1 == 1 {
			whole ^= 0x11D << (i - 8)
		}
	}
	return byte(whole)
}

// call: one of the two products of slices, and what it must leave at a place that had the byte was.
type call struct {
	name string
	run  func(k *Kernel, c byte, dst, src []byte) api.Errno
	left func(c, was, x byte) byte
}

func bothCalls() []call {
	return []call{
		{"Mul", (*Kernel).Mul, func(c, was, x byte) byte { return product(c, x) }},
		{"MulAdd", (*Kernel).MulAdd, func(c, was, x byte) byte { return was ^ product(c, x) }},
	}
}

// behind: the bytes that must stand in dst behind a call, in memory of their own.
func (f call) behind(c byte, dst, src []byte) []byte {
	left := make([]byte, len(src))
	for i, x := range src {
		left[i] = f.left(c, dst[i], x)
	}
	return left
}

// everyByte: the 256 elements.
func everyByte() []byte {
	list := make([]byte, 256)
	for i := range list {
		list[i] = byte(i)
	}
	return list
}

// factors: nought, one, two, the highest bit, all bits, and some others.
func factors() []byte { return []byte{0, 1, 2, 3, 16, 29, 128, 142, 255} }

// lengths: all from 0 to 80, so that up to ten words stand there with every tail, and some great ones with every tail.
func lengths() []int {
	var list []int
	for n := range 81 {
		list = append(list, n)
	}
	for tail := range 8 {
		list = append(list, 1000+tail, 65536+tail)
	}
	return list
}

// mixed: n bytes that look like no pattern, others for each seed; each value stands in a long list.
func mixed(seed, n int) []byte {
	state := uint32(seed)*2654435761 + 12345
	list := make([]byte, n)
	for i := range list {
		state = state*1664525 + 1013904223
		list[i] = byte(state >> 24)
	}
	return list
}

// piece: the bytes within a greater array, so many other bytes ahead of them and 19 in the spare room behind them; and that array.
func piece(ahead int, content []byte) (middle, array []byte) {
	array = mixed(len(content)+ahead+77, ahead+len(content)+19)
	copy(array[ahead:], content)
	return array[ahead : ahead+len(content)], array
}

// turnAll: every bit of a list and of its spare room becomes the other one.
func turnAll[T byte | uint64](list []T) {
	whole := list[:cap(list)]
	for i := range whole {
		whole[i] = ^whole[i]
	}
}

// joined: eight bytes as a word, the first one in the lowest bits.
func joined(list []byte) uint64 {
	w := uint64(0)
	for j, x := range list {
		w += uint64(x) << (8 * j)
	}
	return w
}

// planesOf: the planes of a block, bit by bit.
func planesOf(block []byte) []uint64 {
	planes := make([]uint64, 8)
	for b := range planes {
		for j := len(block) - 1; j >= 0; j-- {
			planes[b] *= 2
			if block[j]&(1<<b) != 0 {
				planes[b]++
			}
		}
	}
	return planes
}

// mixedWords: eight words of any contents.
func mixedWords(seed int) []uint64 { return planesOf(mixed(seed, 64)) }
