package fcode

import (
	"bytes"
	"fmt"
	"math"
	"slices"
	"testing"

	"cullet/api"
)

// What the tests hold the package against is worked out here by the document's words, without a call of the package or of the layers below: products by logarithms, elements by roots that are looked for, codewords as values of polynomials, the locator as products of differences, what is given back as the chapter's sum and by Lagrange's products.

// field16: the field of 65536: powers of 2 and logarithms, by shifts; and the element of each index.
type field16 struct {
	powers [65535]uint16
	logs   [65536]int
	w      [65536]uint16
}

// long: the field of 65536 as the tests have it.
var long = makeField16()

func makeField16() *field16 {
	f := &field16{}
	p := 1
	for n := range f.powers {
		f.powers[n], f.logs[p] = uint16(p), n
		p = product(p, 2)
	}
	basis := f.cantor()
	for i := range f.w {
		for t, b := range basis {
			if i>>t&1 == 1 {
				f.w[i] ^= b
			}
		}
	}
	return f
}

// product: the remainder of the product of two polynomials, the whole product first.
func product(a, b int) int {
	whole := 0
	for i := range 16 {
		if a>>i&1 == 1 {
			whole ^= b << i
		}
	}
	for i := 30; i >= 16; i-- {
		if whole>>i&1 == 1 {
			whole ^= 0x1002D << (i - 16)
		}
	}
	return whole
}

// cantor: 1, and behind each element the even one whose square and itself have it as their sum.
func (f *field16) cantor() []uint16 {
	even := make([]uint16, 65536)
	for y := 0; y < 65536; y += 2 {
		even[product(y, y)^y] = uint16(y)
	}
	basis := []uint16{1}
	for len(basis) < 16 {
		basis = append(basis, even[basis[len(basis)-1]])
	}
	return basis
}

func (f *field16) mul(a, b uint16) uint16 {
	if a == 0 || b == 0 {
		return 0
	}
	return f.powers[(f.logs[a]+f.logs[b])%65535]
}

// div: b isn't 0.
func (f *field16) div(a, b uint16) uint16 {
	return f.mul(a, f.powers[(65535-f.logs[b])%65535])
}

// gaps: the product of w(at) + w(p) over the places, but for the one at itself.
func (f *field16) gaps(at int, places []int) uint16 {
	all := uint16(1)
	for _, p := range places {
		if p != at {
			all = f.mul(all, f.w[at]^f.w[p])
		}
	}
	return all
}

// weight: Lagrange's product: the value at w(at) of the polynomial that is 1 at w(p) and 0 at the other places.
func (f *field16) weight(places []int, p, at int) uint16 {
	return f.div(f.gaps(at, places), f.mul(f.gaps(p, places), f.w[at]^f.w[p]))
}

// setting: the parameters of a code.
type setting struct{ k, m int }

func (s setting) String() string { return fmt.Sprintf("%d + %d", s.k, s.m) }

// doubled: the least power of two that is n or more.
func doubled(n int) int {
	power := 1
	for power < n {
		power *= 2
	}
	return power
}

// size: M. places: N.
func (s setting) size() int   { return doubled(s.m) }
func (s setting) places() int { return doubled(s.size() + s.k) }

// place: of the shard of that number.
func (s setting) place(number int) int {
	if number >= s.k {
		return number - s.k
	}
	return s.size() + number
}

// small: codes whose every loss can be gone through; middling: more shards, all of them looked at; great: those at the limits, and some between, of which some shards are looked at.
func small() []setting {
	return []setting{{1, 1}, {2, 1}, {1, 2}, {1, 3}, {2, 2}, {3, 1}, {3, 2}, {2, 3}, {4, 1}, {4, 3}, {5, 3}, {3, 4}, {4, 4}, {1, 5}}
}

func middling() []setting {
	return []setting{{10, 4}, {17, 9}, {1, 20}, {40, 1}, {16, 16}, {15, 17}, {32, 32}, {33, 8}, {60, 5}, {3, 65}, {100, 28}}
}

func great() []setting {
	return []setting{{65535, 1}, {65534, 2}, {65532, 3}, {65528, 5}, {40000, 20}, {61440, 4096}, {32768, 32768}, {32768, 20000}, {1, 32768}, {32769, 16384}}
}

func backends() []api.Backend { return []api.Backend{api.Direct, api.Fast} }

// codec: a new one of the setting.
func (s setting) codec(t *testing.T, b api.Backend) *Codec {
	t.Helper()
	c, e := New(b, s.k, s.m)
	if c == nil || e != api.OK {
		t.Fatalf("New(%d, %d, %d): %v, %d", b, s.k, s.m, c, e)
	}
	return c
}

// codecs: one of each backend.
func (s setting) codecs(t *testing.T) []*Codec {
	t.Helper()
	var list []*Codec
	for _, b := range backends() {
		list = append(list, s.codec(t, b))
	}
	return list
}

// between: the numbers from a to b - 1.
func between(a, b int) []int {
	var list []int
	for n := a; n < b; n++ {
		list = append(list, n)
	}
	return list
}

// firstOf: the numbers 0 to n - 1.
func firstOf(n int) []int { return between(0, n) }

// parity: the parity shards' numbers.
func (s setting) parity() []int { return between(s.k, s.k+s.m) }

// factor: of data shard i in parity shard j, by the chapter's formula.
func (s setting) factor(i, j int) uint16 {
	at := s.size() + i
	return long.div(long.w[at/s.size()], long.w[j]^long.w[at])
}

// parityRow: the factors of the data in parity shard j.
func (s setting) parityRow(j int) []uint16 {
	row := make([]uint16, s.k)
	for i := range row {
		row[i] = s.factor(i, j)
	}
	return row
}

func (s setting) parityRows() [][]uint16 {
	var rows [][]uint16
	for j := range s.m {
		rows = append(rows, s.parityRow(j))
	}
	return rows
}

// lost: the places of the missing shards and those of the parity that have no shard, rising.
func (s setting) lost(missing []int) []int {
	list := between(s.m, s.size())
	for _, number := range missing {
		list = append(list, s.place(number))
	}
	slices.Sort(list)
	return list
}

// locator: of the lost places the logarithms, by products of differences.
func (s setting) locator(missing []int) []uint16 {
	lost := s.lost(missing)
	logs := make([]uint16, s.places())
	for at := range logs {
		logs[at] = uint16(long.logs[long.gaps(at, lost)])
	}
	return logs
}

// presentBeside: the numbers that missing doesn't name.
func (s setting) presentBeside(missing []int) []int {
	return slices.DeleteFunc(firstOf(s.k+s.m), func(n int) bool { return slices.Contains(missing, n) })
}

// backRow: the factors of the present shards in a missing one, by the chapter's sum.
func (s setting) backRow(logs []uint16, present []int, missing int) []uint16 {
	p := s.place(missing)
	row := make([]uint16, len(present))
	for i, number := range present {
		q := s.place(number)
		e := (int(logs[q])%65535 - int(logs[p])%65535 + 65535) % 65535
		row[i] = long.div(long.powers[e], long.w[p]^long.w[q])
	}
	return row
}

func (s setting) backRows(logs []uint16, present, missing []int) [][]uint16 {
	var rows [][]uint16
	for _, number := range missing {
		rows = append(rows, s.backRow(logs, present, number))
	}
	return rows
}

// wordAt: word t of a shard.
func wordAt(shard []byte, t int) uint16 { return uint16(shard[2*t]) + 256*uint16(shard[2*t+1]) }

func setWord(shard []byte, t int, w uint16) { shard[2*t], shard[2*t+1] = byte(w%256), byte(w/256) }

// sum: the sum of the factors times the words at one place.
func sum(row []uint16, shards [][]byte, t int) uint16 {
	total := uint16(0)
	for i, factor := range row {
		total ^= long.mul(factor, wordAt(shards[i], t))
	}
	return total
}

// filled: the shards, in memory of their own, with the sums by the rows at the span's words of the shards of these numbers.
func filled(shards [][]byte, numbers []int, rows [][]uint16, from [][]byte, span api.Span) [][]byte {
	left := copies(shards)
	for r, number := range numbers {
		for t := span.From / 2; t < span.To/2; t++ {
			setWord(left[number], t, sum(rows[r], from, t))
		}
	}
	return left
}

// encoded: what must stand behind EncodeSpan, in memory of its own.
func (s setting) encoded(shards [][]byte, span api.Span) [][]byte {
	return filled(shards, s.parity(), s.parityRows(), shards[:s.k], span)
}

// refilled: what must stand behind Fill with these logarithms, in memory of its own.
func (s setting) refilled(logs []uint16, missing []int, shards [][]byte, span api.Span) [][]byte {
	present := s.presentBeside(missing)
	return filled(shards, missing, s.backRows(logs, present, missing), pick(shards, present), span)
}

func pick(shards [][]byte, numbers []int) [][]byte {
	var list [][]byte
	for _, number := range numbers {
		list = append(list, shards[number])
	}
	return list
}

// dice: numbers that look like no pattern.
type dice uint64

func (d *dice) next(n int) int {
	*d = *d*6364136223846793005 + 1442695040888963407
	return int(uint64(*d)>>33) % n
}

func (d *dice) bytes(n int) []byte {
	list := make([]byte, n)
	for i := range list {
		list[i] = byte(d.next(256))
	}
	return list
}

func (d *dice) words(n int) []uint16 {
	list := make([]uint16, n)
	for i := range list {
		list[i] = uint16(d.next(65536))
	}
	return list
}

// shards: any contents.
func (d *dice) shards(count, length int) [][]byte {
	var list [][]byte
	for range count {
		list = append(list, d.bytes(length))
	}
	return list
}

// codeword: values of polynomials of a degree below N - M, which are 0 at the places behind the data: the product of x + w(p) over those, times a polynomial of a degree below k, whose coefficients are the dice's.
func (d *dice) codeword(s setting, length int) [][]byte {
	shards := make([][]byte, s.k+s.m)
	zeros := make([]uint16, len(shards))
	behind := between(s.size()+s.k, s.places())
	for number := range shards {
		shards[number] = make([]byte, length)
		zeros[number] = long.gaps(s.place(number), behind)
	}
	for t := range length / 2 {
		coefficients := d.words(s.k)
		for number, shard := range shards {
			x, value := long.w[s.place(number)], uint16(0)
			for i := s.k - 1; i >= 0; i-- {
				value = long.mul(value, x) ^ coefficients[i]
			}
			setWord(shard, t, long.mul(zeros[number], value))
		}
	}
	return shards
}

// some: so many of the numbers below n, rising.
func (d *dice) some(count, n int) []int {
	var list []int
	for number := range n {
		if d.next(n-number) < count-len(list) {
			list = append(list, number)
		}
	}
	return list
}

// subsets: every rising list of numbers below n.
func subsets(n int) [][]int {
	var lists [][]int
	for mask := range 1 << n {
		var list []int
		for number := range n {
			if mask>>number&1 == 1 {
				list = append(list, number)
			}
		}
		lists = append(lists, list)
	}
	return lists
}

// without: the list with the shards of these numbers made empty, some nil, some not; the other entries are the same slices.
func without(shards [][]byte, missing []int) [][]byte {
	list := slices.Clone(shards)
	for i, number := range missing {
		list[number] = nil
		if i%2 == 1 {
			list[number] = []byte{}
		}
	}
	return list
}

func copies(lists [][]byte) [][]byte {
	all := make([][]byte, len(lists))
	for i, list := range lists {
		all[i] = append([]byte{}, list...)
	}
	return all
}

func alike(a, b [][]byte) bool { return slices.EqualFunc(a, b, bytes.Equal) }

// sameSlices: are the entries of these numbers the very slices: their memory, length and capacity?
func sameSlices(a, b [][]byte, numbers []int) bool {
	for _, i := range numbers {
		if len(a[i]) != len(b[i]) || cap(a[i]) != cap(b[i]) {
			return false
		}
		if cap(a[i]) > 0 && &a[i][:1][0] != &b[i][:1][0] {
			return false
		}
	}
	return true
}

// scene: shards amid other bytes, their list amid other entries, so that whatever is written beside them is seen.
type scene struct {
	shards           [][]byte
	list, wasList    [][]byte
	arrays, wasBytes [][]byte
}

const ahead, behind = 5, 11

// stage lays the shards out so. An empty shard has memory behind it as well.
func stage(shards [][]byte) *scene {
	s := &scene{}
	d := dice(len(shards))
	s.list = d.shards(ahead+len(shards)+behind, 3)
	for i, shard := range shards {
		array := slices.Concat(d.bytes(ahead), shard, d.bytes(behind))
		s.arrays = append(s.arrays, array)
		s.list[ahead+i] = array[ahead : ahead+len(shard)]
	}
	s.shards = s.list[ahead : ahead+len(shards)]
	s.wasList, s.wasBytes = slices.Clone(s.list), copies(s.arrays)
	return s
}

// kept: are all entries the same slices, but those of the given numbers; and all bytes of the arrays what they were, but those within the given shards?
func (s *scene) kept(but []int, written []int) bool {
	var entries []int
	for i := range s.list {
		if _, found := slices.BinarySearch(but, i-ahead); !found {
			entries = append(entries, i)
		}
	}
	if !sameSlices(s.list, s.wasList, entries) {
		return false
	}
	for i, array := range s.arrays {
		was := bytes.Clone(s.wasBytes[i])
		if _, found := slices.BinarySearch(written, i); found {
			copy(was[ahead:len(was)-behind], array[ahead:])
		}
		if !bytes.Equal(array, was) {
			return false
		}
	}
	return true
}

// spansOf: every span of words within the length.
func spansOf(length int) []api.Span {
	var list []api.Span
	for from := 0; from <= length; from += 2 {
		for to := from; to <= length; to += 2 {
			list = append(list, api.Span{From: from, To: to})
		}
	}
	return list
}

// badSpans: spans that aren't of words within the length, which is even: each number wrong alone, both, odd ones, and numbers at the ends of int.
func badSpans(length int) []api.Span {
	const least, most = math.MinInt, math.MaxInt
	return []api.Span{
		{From: -2, To: 0}, {From: -2, To: length}, {From: -2, To: -2}, {From: 0, To: -2}, {From: 0, To: length + 2}, {From: -1, To: 0}, {From: -1, To: length}, {From: 0, To: -1},
		{From: length, To: length + 2}, {From: length + 2, To: length + 2}, {From: length + 2, To: length}, {From: length, To: length - 2}, {From: 2, To: 0}, {From: -2, To: length + 2},
		{From: 0, To: 1}, {From: 1, To: 1}, {From: 1, To: 2}, {From: 1, To: length}, {From: 0, To: length - 1}, {From: 1, To: length - 1}, {From: length - 1, To: length}, {From: length - 1, To: length - 1}, {From: 0, To: length + 1}, {From: length + 1, To: length + 1}, {From: 1, To: 0}, {From: length, To: length - 1},
		{From: least, To: 0}, {From: least, To: length}, {From: least, To: least}, {From: least, To: most}, {From: 0, To: least}, {From: 0, To: most}, {From: 0, To: most - 1},
		{From: length, To: most - 1}, {From: most, To: most}, {From: most - 1, To: most - 1}, {From: most - 1, To: length}, {From: most, To: 0}, {From: most, To: least}, {From: 1 << 32, To: 1 << 32}, {From: 0, To: 1 << 32}, {From: -1 << 32, To: 0},
	}
}

func isWithin(span api.Span, length int) bool {
	return slices.Contains(spansOf(length), span)
}

// shardsOf: shards of these lengths; every other empty one is nil.
func shardsOf(lengths ...int) [][]byte {
	d := dice(len(lengths))
	shards := make([][]byte, len(lengths))
	for i, n := range lengths {
		if n > 0 || i%2 == 0 {
			shards[i] = d.bytes(n)
		}
	}
	return shards
}

// countLists calls with each list of n numbers below base.
func countLists(n, base int, with func(list []int)) {
	list := make([]int, n)
	for {
		with(list)
		at := 0
		for at < n && list[at] == base-1 {
			list[at] = 0
			at++
		}
		if at == n {
			return
		}
		list[at]++
	}
}

// endsQuietly: the call ends, and doesn't panic.
func endsQuietly(t *testing.T, name string, run func()) {
	t.Helper()
	defer func() {
		if p := recover(); p != nil {
			t.Errorf("%s panics: %v", name, p)
		}
	}()
	run()
}

// The tests' own sums: the formula's factors are Lagrange's, with N and with greater powers of two in its place; what the chapter's sum gives back is the polynomial of the least degree through all places that aren't lost.
func TestTheTestsOwnSums(t *testing.T) {
	if long.w[1] != 1 || long.w[2] != 0xACCA || long.w[3] != 0xACCB || long.w[1<<15] != 0x991E {
		t.Fatalf("the elements: %x", long.w[:4])
	}
	d := dice(1)
	for _, s := range append(small(), middling()...) {
		for range 20 {
			i, j := d.next(s.k), d.next(s.m)
			for _, end := range []int{s.places(), 2 * s.places()} {
				if x := long.weight(between(s.size(), end), s.size()+i, j); x != s.factor(i, j) {
					t.Fatalf("%v: the factor of data %d in parity %d is %x, and %x by interpolation", s, i, j, s.factor(i, j), x)
				}
			}
			missing := d.some(1+d.next(s.m), s.k+s.m)
			present, wanted := s.presentBeside(missing), missing[d.next(len(missing))]
			lost := s.lost(missing)
			points := slices.DeleteFunc(firstOf(s.places()), func(n int) bool { return slices.Contains(lost, n) })
			row, at := s.backRow(s.locator(missing), present, wanted), d.next(len(present))
			if x := long.weight(points, s.place(present[at]), s.place(wanted)); x != row[at] {
				t.Fatalf("%v without %d: the factor of %d in %d is %x, and %x by interpolation", s, missing, present[at], wanted, row[at], x)
			}
		}
	}
}
