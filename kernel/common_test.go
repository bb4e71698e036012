package kernel

import (
	"bytes"
	"math"
	"slices"
	"testing"

	"cullet/api"
)

// What the tests hold the package against is worked out here bit by bit, as layer 2's chapter defines it, without a call of the package or of the layers below.

// products: at a, b the product of a and b.
var products = everyProduct()

func everyProduct() [256][256]byte {
	var all [256][256]byte
	for a := range all {
		for b := range all[a] {
			all[a][b] = product(byte(a), byte(b))
		}
	}
	return all
}

// product: the remainder by 0x11D of the product of two polynomials, the whole product first.
func product(a, b byte) byte {
	whole := 0
	for i := range 8 {
		for j := range 8 {
			whole ^= int(a>>i&1&(b>>j&1)) << (i + j)
		}
	}
	for i := 14; i >= 8; i-- {
		if whole>>i&1 == 1 {
			whole ^= 0x11D << (i - 8)
		}
	}
	return byte(whole)
}

// sumAt: the sum of the products at one place, in the chapter's words.
func sumAt(row []byte, srcs [][]byte, t int) byte {
	sum := byte(0)
	for i, src := range srcs {
		sum ^= products[row[i]][src[t]]
	}
	return sum
}

// applied: what must stand in dsts behind Apply, in memory of its own.
func applied(rows, srcs, dsts [][]byte, span api.Span) [][]byte {
	left := copies(dsts)
	for r, row := range rows {
		for t := span.From; t < span.To; t++ {
			left[r][t] = sumAt(row, srcs, t)
		}
	}
	return left
}

// spread: what must stand in dsts behind Spread, in memory of its own.
func spread(column, diff []byte, dsts [][]byte, span api.Span) [][]byte {
	left := copies(dsts)
	for r, c := range column {
		for t := span.From; t < span.To; t++ {
			left[r][t] ^= products[c][diff[t]]
		}
	}
	return left
}

func backends() []api.Backend { return []api.Backend{api.Table, api.Nibble, api.Sliced} }

// each: a test of the name of every backend, with a set of its own.
func each(t *testing.T, f func(t *testing.T, s *Set)) {
	t.Helper()
	names := []string{"table", "nibble", "sliced"}
	for i, b := range backends() {
		s, e := New(b)
		if s == nil || e != api.OK {
			t.Fatalf("New(%d): %v, %d", b, s, e)
		}
		t.Run(names[i], func(t *testing.T) { f(t, s) })
	}
}

// call: one of the products of two slices, and what it must leave at a place that had the byte was. Xor is one with no factor and no set.
type call struct {
	name string
	run  func(s *Set, c byte, dst, src []byte) api.Errno
	left func(c, was, x byte) byte
}

func bothCalls() []call {
	return []call{
		{"Mul", (*Set).Mul, func(c, was, x byte) byte { return products[c][x] }},
		{"MulAdd", (*Set).MulAdd, func(c, was, x byte) byte { return was ^ products[c][x] }},
	}
}

func callsOfTwo() []call {
	xor := func(s *Set, c byte, dst, src []byte) api.Errno { return Xor(dst, src) }
	return append(bothCalls(), call{"Xor", xor, func(c, was, x byte) byte { return was ^ x }})
}

// behind: the bytes that must stand in dst behind a call, in memory of their own.
func (f call) behind(c byte, dst, src []byte) []byte {
	left := make([]byte, len(src))
	for i, x := range src {
		left[i] = f.left(c, dst[i], x)
	}
	return left
}

// everyByte: the 256 elements.
func everyByte() []byte {
	list := make([]byte, 256)
	for i := range list {
		list[i] = byte(i)
	}
	return list
}

// factors: nought, one, the single bits, all bits, and some others.
func factors() []byte { return []byte{0, 1, 2, 3, 4, 8, 16, 29, 32, 64, 100, 128, 142, 254, 255} }

// lengths: all from 0 to 50, and some great ones, about the powers of two too.
func lengths() []int {
	var list []int
	for n := range 51 {
		list = append(list, n)
	}
	return append(list, 63, 64, 65, 127, 128, 129, 1000, 4095, 4096, 4097, 8191, 8192, 8193, 12289, 20003)
}

// mixed: n bytes that look like no pattern, others for each seed; each value stands in a long list.
func mixed(seed, n int) []byte {
	state := uint32(seed)*2654435761 + 12345
	list := make([]byte, n)
	for i := range list {
		state = state*1664525 + 1013904223
		list[i] = byte(state >> 24)
	}
	return list
}

// mixedLists: so many lists of n bytes, each of memory of its own.
func mixedLists(seed, count, n int) [][]byte {
	lists := make([][]byte, count)
	for i := range lists {
		lists[i] = mixed(seed+31*i, n)
	}
	return lists
}

// piece: the bytes within a greater array, so many other bytes ahead of them and 19 in the spare room behind them; and that array.
func piece(ahead int, content []byte) (middle, array []byte) {
	array = mixed(len(content)+ahead+77, ahead+len(content)+19)
	copy(array[ahead:], content)
	return array[ahead : ahead+len(content)], array
}

// laid: the lists' bytes one behind another in one array, three other bytes ahead of each and behind the last. The spare room of each goes on to the array's end, so that the lists behind it are in it.
func laid(lists [][]byte) (parts [][]byte, array []byte) {
	whole := 3
	for _, list := range lists {
		whole += len(list) + 3
	}
	array = mixed(whole, whole)
	at := 3
	for _, list := range lists {
		copy(array[at:], list)
		parts = append(parts, array[at:at+len(list)])
		at += len(list) + 3
	}
	return parts, array
}

// copies: the lists in memory of their own.
func copies(lists [][]byte) [][]byte {
	all := make([][]byte, len(lists))
	for i, list := range lists {
		all[i] = append([]byte{}, list...)
	}
	return all
}

func alike(a, b [][]byte) bool { return slices.EqualFunc(a, b, bytes.Equal) }

// column: the i-th factor of each row.
func column(rows [][]byte, i int) []byte {
	var list []byte
	for _, row := range rows {
		list = append(list, row[i])
	}
	return list
}

// goodSpans: some within the length, the chapter's edges among them.
func goodSpans(length int) []api.Span {
	list := []api.Span{{From: 0, To: 0}, {From: 0, To: length}, {From: length, To: length}}
	if length > 2 {
		list = append(list, api.Span{From: 1, To: length - 1}, api.Span{From: length / 2, To: length/2 + 1}, api.Span{From: length / 3, To: length}, api.Span{From: 0, To: length / 3})
	}
	return list
}

// badSpans: spans that aren't within the length: each number wrong alone, both, and numbers at the ends of int.
func badSpans(length int) []api.Span {
	const least, most = math.MinInt, math.MaxInt
	return []api.Span{
		{From: -1, To: 0}, {From: -1, To: length}, {From: -1, To: -1}, {From: 0, To: -1}, {From: 0, To: length + 1},
		{From: length, To: length + 1}, {From: length + 1, To: length + 1}, {From: length + 1, To: length}, {From: length + 1, To: 0}, {From: 1, To: 0}, {From: -1, To: length + 1},
		{From: least, To: 0}, {From: least, To: length}, {From: least, To: least}, {From: least, To: most}, {From: 0, To: least}, {From: 0, To: most},
		{From: length, To: most}, {From: most, To: most}, {From: most, To: length}, {From: most, To: 0}, {From: most, To: least}, {From: least + 1, To: -1}, {From: most - 1, To: most},
		{From: 1 << 32, To: 1 << 32}, {From: 0, To: 1 << 32}, {From: -1 << 32, To: 0},
	}
}

// endsQuietly: the call ends, and doesn't panic.
func endsQuietly(t *testing.T, name string, run func()) {
	t.Helper()
	defer func() {
		if p := recover(); p != nil {
			t.Errorf("%s panics: %v", name, p)
		}
	}()
	run()
}
