package mcode

import (
	"bytes"
	"fmt"
	"math"
	"slices"
	"testing"

	"cullet/api"
)

// What the tests hold the package against is worked out here by the document's words, without a call of the package or of the layers below: products bit by bit, codewords as values of polynomials and as sums of quotients, lost shards by Lagrange's products and by elimination.

// products: at a, b the product of a and b. inverses: of every element but 0.
var (
	products = everyProduct()
	inverses = everyInverse()
)

func everyProduct() [256][256]byte {
	var all [256][256]byte
	for a := range all {
		for b := range all[a] {
			all[a][b] = product(a, b)
		}
	}
	return all
}

func everyInverse() [256]byte {
	var all [256]byte
	for a := range 256 {
		for b := range 256 {
			if products[a][b] == 1 {
				all[a] = byte(b)
			}
		}
	}
	return all
}

// product: the remainder by 0x11D of the product of two polynomials, the whole product first.
func product(a, b int) byte {
	whole := 0
	for i := range 8 {
		if a>>i&1 == 1 {
			whole ^= b << i
		}
	}
	for i := 14; i >= 8; i-- {
		if whole>>i&1 == 1 {
			whole ^= 0x11D << (i - 8)
		}
	}
	return byte(whole)
}

// setting: the parameters of a code.
type setting struct {
	f    api.Family
	k, m int
}

func (s setting) String() string { return fmt.Sprintf("family %d, %d + %d", s.f, s.k, s.m) }

// small: codes whose every loss can be gone through; great: those at the limits, and some between.
func small() []setting {
	return both([][2]int{{1, 1}, {2, 1}, {1, 2}, {1, 4}, {2, 2}, {3, 1}, {3, 2}, {2, 4}, {4, 3}})
}

func great() []setting {
	return both([][2]int{{10, 4}, {17, 9}, {1, 255}, {255, 1}, {128, 128}, {200, 56}, {30, 226}})
}

func both(pairs [][2]int) []setting {
	var list []setting
	for _, p := range pairs {
		list = append(list, setting{api.Vander, p[0], p[1]}, setting{api.Cauchy, p[0], p[1]})
	}
	return list
}

func backends() []api.Backend { return []api.Backend{api.Table, api.Nibble, api.Sliced} }

// codec: a new one of the setting.
func (s setting) codec(t *testing.T, b api.Backend) *Codec {
	t.Helper()
	c, e := New(s.f, b, s.k, s.m)
	if c == nil || e != api.OK {
		t.Fatalf("New(%d, %d, %d, %d): %v, %d", s.f, b, s.k, s.m, c, e)
	}
	return c
}

// codecs: one of each backend.
func (s setting) codecs(t *testing.T) []*Codec {
	t.Helper()
	var list []*Codec
	for _, b := range backends() {
		list = append(list, s.codec(t, b))
	}
	return list
}

// weight: Lagrange's product: the value at x of the polynomial that is 1 at points[i] and 0 at the other points.
func weight(points []int, i, x int) byte {
	above, below := byte(1), byte(1)
	for t, p := range points {
		if t != i {
			above = products[above][byte(x^p)]
			below = products[below][byte(points[i]^p)]
		}
	}
	return products[above][inverses[below]]
}

// firstOf: the numbers 0 to n - 1.
func firstOf(n int) []int {
	list := make([]int, n)
	for i := range list {
		list[i] = i
	}
	return list
}

// generator: the factors of the data in the shard of that number.
func (s setting) generator(number int) []byte {
	row := make([]byte, s.k)
	for i := range row {
		switch {
		case number < s.k && number == i:
			row[i] = 1
		case number >= s.k && s.f == api.Cauchy:
			row[i] = inverses[number^i]
		case number >= s.k:
			row[i] = weight(firstOf(s.k), i, number)
		}
	}
	return row
}

// parityRows: the factors of the data in each parity shard.
func (s setting) parityRows() [][]byte {
	var rows [][]byte
	for j := range s.m {
		rows = append(rows, s.generator(s.k+j))
	}
	return rows
}

// backRows: for each wanted number the factors of the used shards in it. Vander: the polynomial through the used points, at the wanted one. Cauchy: factors x with x times the used shards' rows equal to the wanted one's, by elimination.
func (s setting) backRows(used, wanted []int) [][]byte {
	var rows [][]byte
	if s.f == api.Vander {
		for _, x := range wanted {
			row := make([]byte, s.k)
			for i := range row {
				row[i] = weight(used, i, x)
			}
			rows = append(rows, row)
		}
		return rows
	}
	// A line for each datum: the factors of the used shards, then those of the wanted ones.
	lines := make([][]byte, s.k)
	for _, number := range slices.Concat(used, wanted) {
		for i, factor := range s.generator(number) {
			lines[i] = append(lines[i], factor)
		}
	}
	eliminate(lines)
	for w := range wanted {
		var row []byte
		for i := range s.k {
			row = append(row, lines[i][s.k+w])
		}
		rows = append(rows, row)
	}
	return rows
}

// eliminate: the square at the lines' beginning, which has an inverse, becomes the identity.
func eliminate(lines [][]byte) {
	for at := range lines {
		pivot := at
		for lines[pivot][at] == 0 {
			pivot++
		}
		lines[at], lines[pivot] = lines[pivot], lines[at]
		scale := inverses[lines[at][at]]
		for i, x := range lines[at] {
			lines[at][i] = products[scale][x]
		}
		for other := range lines {
			if factor := lines[other][at]; other != at && factor != 0 {
				for i, x := range lines[at] {
					lines[other][i] ^= products[factor][x]
				}
			}
		}
	}
}

// sum: the sum of the factors times the bytes at one place.
func sum(row []byte, shards [][]byte, at int) byte {
	total := byte(0)
	for i, factor := range row {
		total ^= products[factor][shards[i][at]]
	}
	return total
}

// filled: the shards, in memory of their own, with the sums by the rows at the span's places of the shards of these numbers.
func filled(shards [][]byte, numbers []int, rows [][]byte, from [][]byte, span api.Span) [][]byte {
	left := copies(shards)
	for r, number := range numbers {
		for at := span.From; at < span.To; at++ {
			left[number][at] = sum(rows[r], from, at)
		}
	}
	return left
}

// encoded: what must stand behind EncodeSpan, in memory of its own.
func (s setting) encoded(shards [][]byte, span api.Span) [][]byte {
	return filled(shards, firstOf(s.k + s.m)[s.k:], s.parityRows(), shards[:s.k], span)
}

// restored: what must stand behind Reconstruct, in memory of its own.
func (s setting) restored(shards [][]byte, missing []int) [][]byte {
	used := s.usedBeside(missing)
	length := len(shards[used[0]])
	room := copies(shards)
	for _, number := range missing {
		room[number] = make([]byte, length)
	}
	return filled(room, missing, s.backRows(used, missing), pick(shards, used), api.Span{To: length})
}

// usedBeside: the first k numbers that missing doesn't name.
func (s setting) usedBeside(missing []int) []int {
	left := slices.DeleteFunc(firstOf(s.k+s.m), func(n int) bool { return slices.Contains(missing, n) })
	return left[:s.k]
}

func pick(shards [][]byte, numbers []int) [][]byte {
	var list [][]byte
	for _, number := range numbers {
		list = append(list, shards[number])
	}
	return list
}

// dice: numbers that look like no pattern.
type dice uint64

func (d *dice) next(n int) int {
	*d = *d*6364136223846793005 + 1442695040888963407
	return int(uint64(*d)>>33) % n
}

func (d *dice) bytes(n int) []byte {
	list := make([]byte, n)
	for i := range list {
		list[i] = byte(d.next(256))
	}
	return list
}

// shards: any contents.
func (d *dice) shards(count, length int) [][]byte {
	var list [][]byte
	for range count {
		list = append(list, d.bytes(length))
	}
	return list
}

// codeword: of Vander values of polynomials, whose coefficients are the dice's, at the numbers; of Cauchy data of the dice, and the sums of quotients.
func (d *dice) codeword(s setting, length int) [][]byte {
	shards := make([][]byte, s.k+s.m)
	for x := range shards {
		shards[x] = make([]byte, length)
	}
	for at := range length {
		seeds := d.bytes(s.k)
		for x := range shards {
			value := byte(0)
			switch {
			case s.f == api.Vander:
				for i := s.k - 1; i >= 0; i-- {
					value = products[value][byte(x)] ^ seeds[i]
				}
			case x < s.k:
				value = seeds[x]
			default:
				for i, c := range seeds {
					value ^= products[c][inverses[x^i]]
				}
			}
			shards[x][at] = value
		}
	}
	return shards
}

// some: so many of the numbers below n, rising.
func (d *dice) some(count, n int) []int {
	var list []int
	for number := range n {
		if d.next(n-number) < count-len(list) {
			list = append(list, number)
		}
	}
	return list
}

// subsets: every rising list of numbers below n.
func subsets(n int) [][]int {
	var lists [][]int
	for mask := range 1 << n {
		var list []int
		for number := range n {
			if mask>>number&1 == 1 {
				list = append(list, number)
			}
		}
		lists = append(lists, list)
	}
	return lists
}

// without: the list with the shards of these numbers made empty, some nil, some not; the other entries are the same slices.
func without(shards [][]byte, missing []int) [][]byte {
	list := slices.Clone(shards)
	for i, number := range missing {
		list[number] = nil
		if i%2 == 1 {
			list[number] = []byte{}
		}
	}
	return list
}

func copies(lists [][]byte) [][]byte {
	all := make([][]byte, len(lists))
	for i, list := range lists {
		all[i] = append([]byte{}, list...)
	}
	return all
}

func alike(a, b [][]byte) bool { return slices.EqualFunc(a, b, bytes.Equal) }

// sameSlices: are the entries of these numbers the very slices: their memory, length and capacity?
func sameSlices(a, b [][]byte, numbers []int) bool {
	for _, i := range numbers {
		if len(a[i]) != len(b[i]) || cap(a[i]) != cap(b[i]) {
			return false
		}
		if cap(a[i]) > 0 && &a[i][:1][0] != &b[i][:1][0] {
			return false
		}
	}
	return true
}

// scene: shards amid other bytes, their list amid other entries, so that whatever is written beside them is seen.
type scene struct {
	shards           [][]byte
	list, wasList    [][]byte
	arrays, wasBytes [][]byte
}

const ahead, behind = 5, 11

// stage lays the shards out so. An empty shard has memory behind it as well.
func stage(shards [][]byte) *scene {
	s := &scene{}
	d := dice(len(shards))
	s.list = d.shards(ahead+len(shards)+behind, 3)
	for i, shard := range shards {
		array := slices.Concat(d.bytes(ahead), shard, d.bytes(behind))
		s.arrays = append(s.arrays, array)
		s.list[ahead+i] = array[ahead : ahead+len(shard)]
	}
	s.shards = s.list[ahead : ahead+len(shards)]
	s.wasList, s.wasBytes = slices.Clone(s.list), copies(s.arrays)
	return s
}

// kept: are all entries the same slices, but those of the given numbers; and all bytes of the arrays what they were, but those within the given shards?
func (s *scene) kept(but []int, written []int) bool {
	var entries []int
	for i := range s.list {
		if !slices.Contains(but, i-ahead) {
			entries = append(entries, i)
		}
	}
	if !sameSlices(s.list, s.wasList, entries) {
		return false
	}
	for i, array := range s.arrays {
		was := bytes.Clone(s.wasBytes[i])
		if slices.Contains(written, i) {
			copy(was[ahead:len(was)-behind], array[ahead:])
		}
		if !bytes.Equal(array, was) {
			return false
		}
	}
	return true
}

// spansOf: every span within the length.
func spansOf(length int) []api.Span {
	var list []api.Span
	for from := range length + 1 {
		for to := from; to <= length; to++ {
			list = append(list, api.Span{From: from, To: to})
		}
	}
	return list
}

// badSpans: spans that aren't within the length: each number wrong alone, both, and numbers at the ends of int.
func badSpans(length int) []api.Span {
	const least, most = math.MinInt, math.MaxInt
	return []api.Span{
		{From: -1, To: 0}, {From: -1, To: length}, {From: -1, To: -1}, {From: 0, To: -1}, {From: 0, To: length + 1},
		{From: length, To: length + 1}, {From: length + 1, To: length + 1}, {From: length + 1, To: length}, {From: length, To: length - 1}, {From: 1, To: 0}, {From: -1, To: length + 1},
		{From: least, To: 0}, {From: least, To: length}, {From: least, To: least}, {From: least, To: most}, {From: 0, To: least}, {From: 0, To: most},
		{From: length, To: most}, {From: most, To: most}, {From: most, To: length}, {From: most, To: 0}, {From: most, To: least}, {From: 1 << 32, To: 1 << 32}, {From: 0, To: 1 << 32}, {From: -1 << 32, To: 0},
	}
}

func isWithin(span api.Span, length int) bool {
	return slices.Contains(spansOf(length), span)
}

// shardsOf: shards of these lengths; every other empty one is nil.
func shardsOf(lengths ...int) [][]byte {
	d := dice(len(lengths))
	shards := make([][]byte, len(lengths))
	for i, n := range lengths {
		if n > 0 || i%2 == 0 {
			shards[i] = d.bytes(n)
		}
	}
	return shards
}

// countLists calls with each list of n numbers below base.
func countLists(n, base int, with func(list []int)) {
	list := make([]int, n)
	for {
		with(list)
		at := 0
		for at < n && list[at] == base-1 {
			list[at] = 0
			at++
		}
		if at == n {
			return
		}
		list[at]++
	}
}

// endsQuietly: the call ends, and doesn't panic.
func endsQuietly(t *testing.T, name string, run func()) {
	t.Helper()
	defer func() {
		if p := recover(); p != nil {
			t.Errorf("%s panics: %v", name, p)
		}
	}()
	run()
}
