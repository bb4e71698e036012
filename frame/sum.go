package frame

// fourShifts: what four of the sum's shifts add to a number that ends with these four bits.
var fourShifts = [16]uint32{
	0x00000000, 0x1DB71064, 0x3B6E20C8, 0x26D930AC, 0x76DC4190, 0x6B6B51F4, 0x4DB26158, 0x5005713C,
	0xEDB88320, 0xF00F9344, 0xD6D6A3E8, 0xCB61B38C, 0x9B64C2B0, 0x86D3D2D4, 0xA00AE278, 0xBDBDF21C,
}

// Sum: the CRC-32 of b.
func Sum(b []byte) uint32 { return Fold(0, b) }

// Fold: the sum of a text whose sum is sum with b behind it.
func Fold(sum uint32, b []byte) uint32 {
	r := ^sum
	for _, value := range b {
		r ^= uint32(value)
		r = r>>4 ^ fourShifts[r&15]
		r = r>>4 ^ fourShifts[r&15]
	}
	return ^r
}

// numberIn: what the bytes say, the lowest one first.
func numberIn(b []byte) uint64 {
	var n uint64
	for i, value := range b {
		n |= uint64(value) << (8 * i)
	}
	return n
}

// putNumber fills b with the number, its lowest byte first.
func putNumber(b []byte, n uint64) {
	for i := range b {
		b[i] = byte(n >> (8 * i))
	}
}
