package nibble

import "cullet/api"

// What the tests hold the package against is worked out here bit by bit, as layer 2's chapter defines it, without a call of the package or of the layers below.

// product: the remainder by 0x11D of the product of two polynomials, the whole product first.
func product(a, b byte) byte {
	whole := 0
	for i := range 8 {
		for j := range 8 {
			whole ^= int(a>>i&1&(b>>j&1)) << (i + j)
		}
	}
	for i := 14; i >= 8; i-- {
		if whole>>i&1 == 1 {
			whole ^= 0x11D << (i - 8)
		}
	}
	return byte(whole)
}

// call: one of the two products of slices, and what it must leave at a place that had the byte was.
type call struct {
	name string
	run  func(k *Kernel, c byte, dst, src []byte) api.Errno
	left func(c, was, x byte) byte
}

func bothCalls() []call {
	return []call{
		{"Mul", (*Kernel).Mul, func(c, was, x byte) byte { return product(c, x) }},
		{"MulAdd", (*Kernel).MulAdd, func(c, was, x byte) byte { return was ^ product(c, x) }},
	}
}

// behind: the bytes that must stand in dst behind a call, in memory of their own.
func (f call) behind(c byte, dst, src []byte) []byte {
	left := make([]byte, len(src))
	for i, x := range src {
		left[i] = f.left(c, dst[i], x)
	}
	return left
}

// everyByte: the 256 elements.
func everyByte() []byte {
	list := make([]byte, 256)
	for i := range list {
		list[i] = byte(i)
	}
	return list
}

// factors: nought, one, two, half bytes of either side, and some others.
func factors() []byte { return []byte{0, 1, 2, 3, 15, 16, 29, 128, 142, 240, 255} }

// lengths: none, few, about those of machine words, about those of the lists and of the field, and a great one.
func lengths() []int {
	return []int{0, 1, 2, 3, 7, 8, 9, 15, 16, 17, 31, 33, 63, 64, 65, 255, 256, 257, 1000, 4096, 65537}
}

// mixed: n bytes that look like no pattern, others for each seed; each value stands in a long list.
func mixed(seed, n int) []byte {
	state := uint32(seed)*2654435761 + 12345
	list := make([]byte, n)
	for i := range list {
		state = state*1664525 + 1013904223
		list[i] = byte(state >> 24)
	}
	return list
}

// ahead: so many bytes of a piece's array stand ahead of the piece.
const ahead = 11

// piece: the bytes in the middle of a greater array, other bytes ahead of them and in the spare room behind them; and that array.
func piece(content []byte) (middle, array []byte) {
	array = mixed(len(content)+77, len(content)+24)
	copy(array[ahead:], content)
	return array[ahead : ahead+len(content)], array
}

// turnAll: every byte of a list and of its spare room becomes another one.
func turnAll(list []byte) {
	whole := list[:cap(list)]
	for i := range whole {
		whole[i] ^= 0xFF
	}
}
