package polys

// degree: the place of the last element that is not 0, or -1.
func degree[E uint8 | uint16](f []E) int {
	last := len(f) - 1
	for last >= 0 && f[last] == 0 {
		last--
	}
	return last
}

// trimmed: the piece of f ahead of the zeros at its end. It is f's memory.
func trimmed[E uint8 | uint16](f []E) []E { return f[:degree(f)+1] }

// copied: f in new memory. (slices.Clone would leave an empty list at f's address.)
func copied[E uint8 | uint16](f []E) []E {
	list := make([]E, len(f))
	copy(list, f)
	return list
}

// sum: of two lists of any length, trimmed, in new memory.
func sum[E uint8 | uint16](f, g []E) []E {
	if len(f) < len(g) {
		f, g = g, f
	}
	list := copied(f)
	for i, x := range g {
		list[i] ^= x
	}
	return trimmed(list)
}
