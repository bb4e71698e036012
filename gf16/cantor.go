package gf16

import "cullet/api"

// basis: the Cantor basis. Each but the first is the root of the one before it, so that y*y + y leads the element of index i to that of index i >> 1.
var basis = [degree]uint16{
	0x0001, 0xACCA, 0x3C0E, 0x163E, 0xC582, 0xED2E, 0x914C, 0x4012,
	0x6C98, 0x10D8, 0x6A72, 0xB900, 0xFDB8, 0xFB34, 0xFF38, 0x991E,
}

// indices: those of the elements 1, 2, 4, .., 0x8000. The index of a sum is the sum of the indices, so that they give that of every element.
var indices = [degree]uint16{
	0x0001, 0x4690, 0x65D8, 0x62D0, 0x5734, 0x45F0, 0x53B8, 0x1E38,
	0x7CAE, 0x4E38, 0x6708, 0xC25C, 0x7A64, 0x9EAC, 0x1124, 0x523A,
}

// Root: the even y with y*y + y = a. ErrNoRoot.
func Root(a uint16) (uint16, api.Errno) {
	// All of the basis but its first are even, and twice an index has no first.
	y, e := Element(2 * Index(a))
	if e != api.OK {
		return 0, api.ErrNoRoot
	}
	return y, api.OK
}

// Basis: the sixteen elements of the Cantor basis.
func Basis() []uint16 {
	list := basis
	return list[:]
}

// Element: the element of index i, 0 to 65535. ErrIndex.
func Element(i int) (uint16, api.Errno) {
	if i < 0 || i >= elements {
		return 0, api.ErrIndex
	}
	sum := uint16(0)
	for t, b := range basis {
		if i>>t&1 == 1 {
			sum ^= b
		}
	}
	return sum, api.OK
}

// Index: the index of the element a.
func Index(a uint16) int {
	sum := uint16(0)
	for t, i := range indices {
		if a>>t&1 == 1 {
			sum ^= i
		}
	}
	return int(sum)
}
