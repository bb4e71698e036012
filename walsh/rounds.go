package walsh

const modulus = elements - 1

// turned: the transform of a list of good length, each number times a factor up to 65536; in new memory, and from 0 to 65534.
func turned(v []uint16, factor uint32) []uint16 {
	list := make([]uint16, len(v))
	copy(list, v)
	for distance := 1; distance < len(list); distance *= 2 {
		round(list, distance)
	}
	for i, a := range list {
		list[i] = times(a, factor)
	}
	return list
}

// turnedBack: the list whose transform this is. Two transforms multiply by the length, and that by 65536 over the length is 1 modulo 65535.
func turnedBack(t []uint16) []uint16 {
	return turned(t, uint32(elements/len(t)))
}

// round: all pairs at one distance become their sums and differences.
func round(list []uint16, distance int) {
	for from := 0; from < len(list); from += 2 * distance {
		first := list[from : from+distance]
		second := list[from+distance : from+2*distance]
		for i, a := range first {
			b := second[i]
			first[i], second[i] = sum(a, b), difference(a, b)
		}
	}
}

// sum: a + b modulo 65535. Between the rounds 65535 stands for 0 as well as 0 does: what overflows the 16 bits is added at their low end, without a branch.
func sum(a, b uint16) uint16 {
	s := uint32(a) + uint32(b)
	return uint16(s + s>>16)
}

// difference: a - b modulo 65535, 65535 standing for 0 too. Below 0 the high half is all ones, and adding it is taking the borrowed 1 away.
func difference(a, b uint16) uint16 {
	d := uint32(a) - uint32(b)
	return uint16(d + d>>16)
}

// times: a times a factor up to 65536, from 0 to 65534.
func times(a uint16, factor uint32) uint16 {
	return uint16(uint32(a) * factor % modulus)
}
