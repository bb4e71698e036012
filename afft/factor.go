package afft

import "cullet/gf16"

// few: for fewer words than these it takes longer to make a factor's lists than they save.
const few = 16

// factor: an element that words are multiplied by. Where the words are many, lists hold its products with each half byte at each of the four places of a word.
type factor struct {
	c     uint16
	lists *[4][16]uint16
}

// newFactor: for so many words.
func newFactor(c uint16, words int) *factor {
	if words < few {
		return &factor{c: c}
	}
	return &factor{c, products(c)}
}

// products: at place n of list q the product of c and n shifted by 4q bits: those of the single bits, and their sums.
func products(c uint16) *[4][16]uint16 {
	lists := new([4][16]uint16)
	for q := range lists {
		list := &lists[q]
		for bit := 1; bit < len(list); bit *= 2 {
			p := gf16.Mul(c, uint16(bit)<<(4*q))
			for n := range bit {
				list[bit+n] = list[n] ^ p
			}
		}
	}
	return lists
}

// addProducts: to each word of dst the product of the word of src is added; the two have one length.
func (f *factor) addProducts(dst, src []uint16) {
	if f.lists == nil {
		for i, w := range src {
			dst[i] ^= gf16.Mul(f.c, w)
		}
		return
	}
	for i, w := range src {
		dst[i] ^= f.lists[0][w&15] ^ f.lists[1][w>>4&15] ^ f.lists[2][w>>8&15] ^ f.lists[3][w>>12]
	}
}

// add: to each word of dst that of src is added; the two have one length.
func add(dst, src []uint16) {
	for i, w := range src {
		dst[i] ^= w
	}
}
