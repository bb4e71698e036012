package fcode

import (
	"math/bits"

	"cullet/planes"
	"cullet/walsh"
)

// direct: the backend that works out the sums as they are written, product by product.
type direct struct {
	kernel  *planes.Kernel
	powers  powers
	logs    []uint16 // of the elements at the places
	weights []uint16 // the locator's logarithms where all places of the parity are lost
}

func newDirect(size, places int) *direct {
	logs, _ := walsh.Logs(bits.TrailingZeros(uint(places)))
	weights := make([]uint16, places)
	for q := range weights {
		// The lost places are a subspace, so its polynomial leads the element of q to that of q / size. Its derivative is 1, whose logarithm is that which stands for w(0).
		weights[q] = logs[q/size]
	}
	return &direct{planes.New(), newPowers(), logs, weights}
}

// addParity: the parity is what is given back where all of it is lost.
func (d *direct) addParity(data []part, sums [][]byte) {
	for j, sum := range sums {
		d.addSum(d.weights, data, part{j, sum})
	}
}

func (d *direct) giveBack(logs []uint16, present, missing []part) {
	for _, p := range missing {
		clear(p.bytes)
		d.addSum(logs, present, p)
	}
}

// addSum adds to a part the chapter's sum over others, none of which stands at its place.
func (d *direct) addSum(logs []uint16, from []part, to part) {
	for _, p := range from {
		// w(p) + w(q) is the element of the index p xor q.
		e := int(logs[p.place]) - int(logs[to.place]) - int(d.logs[p.place^to.place])
		d.kernel.MulAdd(d.powers.of(e), to.bytes, p.bytes)
	}
}
