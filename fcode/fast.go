package fcode

import (
	"cullet/afft"
	"cullet/api"
	"cullet/lch"
	"cullet/planes"
)

const (
	manyWords = 1 << 18 // about so many are transformed at a time
	wideRow   = 64      // in rows of fewer words the transform takes longer for each
)

// fast: the backend that works by the additive Fourier transform of rows of words, a row for each place.
type fast struct {
	kernel       *planes.Kernel
	powers       powers
	size, places int
}

func newFast(size, places int) *fast {
	return &fast{planes.New(), newPowers(), size, places}
}

func (f *fast) addParity(data []part, sums [][]byte) {
	for _, span := range pieces(len(sums[0]), f.size) {
		f.addBlocks(cutParts(data, span), cut(sums, span))
	}
}

// addBlocks: in each block of as many places as the parity has there is one polynomial with the data's words; the parity is the values of their sum. (Of the one polynomial through all blocks, the parity's among them, the highest coefficients are the sums of the blocks', and they are 0.)
func (f *fast) addBlocks(data []part, sums [][]byte) {
	total := zeros(f.size, len(sums[0])/wordLen)
	for len(data) > 0 {
		from := data[0].place / f.size * f.size
		count := 0
		for count < len(data) && data[count].place < from+f.size {
			count++
		}
		rows := laid(data[:count], from, f.size)
		afft.InverseRows(rows, from)
		for i, row := range rows {
			add(total[i], row)
		}
		data = data[count:]
	}
	afft.ForwardRows(total, 0)
	for j, sum := range sums {
		f.kernel.MulAdd(1, sum, planes.Bytes(total[j]))
	}
}

func (f *fast) giveBack(logs []uint16, present, missing []part) {
	if len(missing) == 0 {
		return
	}
	for _, span := range pieces(len(missing[0].bytes), f.places) {
		f.giveBackPiece(logs, cutParts(present, span), cutParts(missing, span))
	}
}

// giveBackPiece: let a polynomial have at the present places their words, times the powers of the logarithms there, and 0 at all other places. Its derivative at one of the others, p, is the sum of these values, each by w(p) + w(q): the polynomial that is 1 at q and 0 at all other places is that with the places as zeros, whose derivative is 1, by x + w(q).
func (f *fast) giveBackPiece(logs []uint16, present, missing []part) {
	rows := laid(f.weighted(logs, present), 0, f.places)
	afft.InverseRows(rows, 0)
	derivative(rows)
	afft.ForwardRows(rows, 0)
	for _, p := range missing {
		f.kernel.Mul(f.powers.of(-int(logs[p.place])), p.bytes, planes.Bytes(rows[p.place]))
	}
}

// weighted: the parts, each times the power of its place's logarithm.
func (f *fast) weighted(logs []uint16, parts []part) []part {
	list := make([]part, 0, len(parts))
	for _, p := range parts {
		product := make([]byte, len(p.bytes))
		f.kernel.Mul(f.powers.of(int(logs[p.place])), product, p.bytes)
		list = append(list, part{p.place, product})
	}
	return list
}

// pieces: spans that make up the length, each of no more words than can be transformed at a time in so many rows.
func pieces(length, rows int) []api.Span {
	step := wordLen * max(wideRow, manyWords/rows)
	var list []api.Span
	for from := 0; from < length; from += step {
		list = append(list, api.Span{From: from, To: min(from+step, length)})
	}
	return list
}

// laid: rows of words for so many places: those of the parts, of which there is one or more, and zeros at the other places.
func laid(parts []part, from, count int) [][]uint16 {
	rows := make([][]uint16, count)
	for _, p := range parts {
		rows[p.place-from], _ = planes.Words(p.bytes)
	}
	for i := range rows {
		if rows[i] == nil {
			rows[i] = make([]uint16, len(parts[0].bytes)/wordLen)
		}
	}
	return rows
}

// zeros: rows of so many words.
func zeros(count, words int) [][]uint16 {
	rows := make([][]uint16, count)
	for i := range rows {
		rows[i] = make([]uint16, words)
	}
	return rows
}

// derivative: each column of coefficients becomes that of the derivative.
func derivative(rows [][]uint16) {
	column := make([]uint16, len(rows))
	for t := range rows[0] {
		for i, row := range rows {
			column[i] = row[t]
		}
		slope, _ := lch.Derivative(column)
		for i, row := range rows {
			row[t] = slope[i]
		}
	}
}

// add: to each word of dst that of src is added; the two have one length.
func add(dst, src []uint16) {
	for t, word := range src {
		dst[t] ^= word
	}
}
