package mend

import (
	"bytes"
	"fmt"
	"slices"
	"testing"

	"cullet/api"
)

// What the tests hold the package against is worked out here by the document's words, without a call of the package or of the layers below: products bit by bit, codewords as values of polynomials and as sums of quotients, and what is near by trying all choices of k values that may be the right ones.

// products: at a, b the product of a and b. inverses: of every element but 0.
var (
	products = everyProduct()
	inverses = everyInverse()
)

func everyProduct() [256][256]byte {
	var all [256][256]byte
	for a := range all {
		for b := range all[a] {
			all[a][b] = product(a, b)
		}
	}
	return all
}

func everyInverse() [256]byte {
	var all [256]byte
	for a := range 256 {
		for b := range 256 {
			if products[a][b] == 1 {
				all[a] = byte(b)
			}
		}
	}
	return all
}

// product: the remainder by 0x11D of the product of two polynomials, the whole product first.
func product(a, b int) byte {
	whole := 0
	for i := range 8 {
		if a>>i&1 == 1 {
			whole ^= b << i
		}
	}
	for i := 14; i >= 8; i-- {
		if whole>>i&1 == 1 {
			whole ^= 0x11D << (i - 8)
		}
	}
	return byte(whole)
}

// setting: the parameters of a code.
type setting struct {
	f    api.Family
	k, m int
}

func (s setting) String() string { return fmt.Sprintf("family %d, %d + %d", s.f, s.k, s.m) }

// small: codes whose every loss, and every choice of right shards, can be gone through; great: those at the limits, and some between.
func small() []setting {
	return both([][2]int{{1, 1}, {2, 1}, {1, 2}, {1, 3}, {1, 4}, {2, 2}, {3, 1}, {3, 2}, {2, 4}, {4, 3}, {3, 4}})
}

func great() []setting {
	return both([][2]int{{10, 4}, {17, 9}, {1, 255}, {255, 1}, {254, 2}, {128, 128}, {200, 56}, {30, 226}})
}

func both(pairs [][2]int) []setting {
	var list []setting
	for _, p := range pairs {
		list = append(list, setting{api.Vander, p[0], p[1]}, setting{api.Cauchy, p[0], p[1]})
	}
	return list
}

// weight: Lagrange's product: the value at x of the polynomial that is 1 at points[i] and 0 at the other points.
func weight(points []int, i, x int) byte {
	above, below := byte(1), byte(1)
	for t, p := range points {
		if t != i {
			above = products[above][byte(x^p)]
			below = products[below][byte(points[i]^p)]
		}
	}
	return products[above][inverses[below]]
}

// firstOf: the numbers 0 to n - 1.
func firstOf(n int) []int {
	list := make([]int, n)
	for i := range list {
		list[i] = i
	}
	return list
}

// generator: the factors of the data in the shard of that number.
func (s setting) generator(number int) []byte {
	row := make([]byte, s.k)
	for i := range row {
		switch {
		case number < s.k && number == i:
			row[i] = 1
		case number >= s.k && s.f == api.Cauchy:
			row[i] = inverses[number^i]
		case number >= s.k:
			row[i] = weight(firstOf(s.k), i, number)
		}
	}
	return row
}

// backRows: for each wanted number the factors of the used shards in it. Vander: the polynomial through the used points, at the wanted one. Cauchy: factors x with x times the used shards' rows equal to the wanted one's, by elimination.
func (s setting) backRows(used, wanted []int) [][]byte {
	var rows [][]byte
	if s.f == api.Vander {
		for _, x := range wanted {
			row := make([]byte, s.k)
			for i := range row {
				row[i] = weight(used, i, x)
			}
			rows = append(rows, row)
		}
		return rows
	}
	// A line for each datum: the factors of the used shards, then those of the wanted ones.
	lines := make([][]byte, s.k)
	for _, number := range slices.Concat(used, wanted) {
		for i, factor := range s.generator(number) {
			lines[i] = append(lines[i], factor)
		}
	}
	eliminate(lines)
	for w := range wanted {
		var row []byte
		for i := range s.k {
			row = append(row, lines[i][s.k+w])
		}
		rows = append(rows, row)
	}
	return rows
}

// eliminate: the square at the lines' beginning, which has an inverse, becomes the identity.
func eliminate(lines [][]byte) {
	for at := range lines {
		pivot := at
		for lines[pivot][at] == 0 {
			pivot++
		}
		lines[at], lines[pivot] = lines[pivot], lines[at]
		scale := inverses[lines[at][at]]
		for i, x := range lines[at] {
			lines[at][i] = products[scale][x]
		}
		for other := range lines {
			if factor := lines[other][at]; other != at && factor != 0 {
				for i, x := range lines[at] {
					lines[other][i] ^= products[factor][x]
				}
			}
		}
	}
}

// value: of the polynomial at x: the sum of its coefficients times the powers of x.
func value(f []byte, x int) byte {
	total, power := byte(0), byte(1)
	for _, c := range f {
		total ^= products[c][power]
		power = products[power][byte(x)]
	}
	return total
}

// values: of the polynomial at the points.
func values(f []byte, points []int) []byte {
	var list []byte
	for _, x := range points {
		list = append(list, value(f, x))
	}
	return list
}

// choices: every rising list of k of the numbers.
func choices(numbers []int, k int) [][]int {
	if k == 0 {
		return [][]int{nil}
	}
	var lists [][]int
	for i := range len(numbers) - k + 1 {
		for _, rest := range choices(numbers[i+1:], k-1) {
			lists = append(lists, append([]int{numbers[i]}, rest...))
		}
	}
	return lists
}

// guide: if the shards of these numbers are right, the rows tell what all are.
type guide struct {
	used []int
	rows [][]byte
}

// guides: one for each choice of k of the numbers.
func (s setting) guides(numbers []int) []guide {
	var list []guide
	for _, used := range choices(numbers, s.k) {
		list = append(list, guide{used, s.backRows(used, firstOf(s.k+s.m))})
	}
	return list
}

// mended: the one column of a codeword that differs from the column at no more than so many of the present shards, or nil. One that does has k right ones among these, since at most half of what is beyond k is wrong; so some guide leads to it.
func mended(all []guide, column []byte, present []int, most int) []byte {
	for _, g := range all {
		var right []byte
		for _, row := range g.rows {
			total := byte(0)
			for i, factor := range row {
				total ^= products[factor][column[g.used[i]]]
			}
			right = append(right, total)
		}
		if len(unlike(right, column, present)) <= most {
			return right
		}
	}
	return nil
}

// unlike: those of the numbers at which the columns differ.
func unlike(a, b []byte, numbers []int) []int {
	var list []int
	for _, i := range numbers {
		if a[i] != b[i] {
			list = append(list, i)
		}
	}
	return list
}

// oracle: what Shards must make of the shard set, and which shards are wrong; nil if a column can't be mended.
func (s setting) oracle(shards [][]byte, all []guide) (right [][]byte, wrong []int) {
	present := presentOf(shards)
	most := (s.m - (s.k + s.m - len(present))) / 2
	right = make([][]byte, s.k+s.m)
	for at := range shards[present[0]] {
		column := make([]byte, s.k+s.m)
		for _, i := range present {
			column[i] = shards[i][at]
		}
		back := mended(all, column, present, most)
		if back == nil {
			return nil, nil
		}
		for i, c := range back {
			right[i] = append(right[i], c)
		}
		wrong = append(wrong, unlike(back, column, present)...)
	}
	slices.Sort(wrong)
	return right, slices.Compact(wrong)
}

// presentOf: the numbers of the shards that aren't empty.
func presentOf(shards [][]byte) []int {
	var list []int
	for i, shard := range shards {
		if len(shard) > 0 {
			list = append(list, i)
		}
	}
	return list
}

// beside: the numbers below n that the list doesn't name.
func beside(list []int, n int) []int {
	return slices.DeleteFunc(firstOf(n), func(i int) bool { return slices.Contains(list, i) })
}

// dice: numbers that look like no pattern.
type dice uint64

func (d *dice) next(n int) int {
	*d = *d*6364136223846793005 + 1442695040888963407
	return int(uint64(*d)>>33) % n
}

func (d *dice) bytes(n int) []byte {
	list := make([]byte, n)
	for i := range list {
		list[i] = byte(d.next(256))
	}
	return list
}

// shards: any contents.
func (d *dice) shards(count, length int) [][]byte {
	var list [][]byte
	for range count {
		list = append(list, d.bytes(length))
	}
	return list
}

// codeword: of Vander values of polynomials, whose coefficients are the dice's, at the numbers; of Cauchy data of the dice, and the sums of quotients.
func (d *dice) codeword(s setting, length int) [][]byte {
	shards := make([][]byte, s.k+s.m)
	for x := range shards {
		shards[x] = make([]byte, length)
	}
	for at := range length {
		seeds := d.bytes(s.k)
		for x := range shards {
			value := byte(0)
			switch {
			case s.f == api.Vander:
				for i := s.k - 1; i >= 0; i-- {
					value = products[value][byte(x)] ^ seeds[i]
				}
			case x < s.k:
				value = seeds[x]
			default:
				for i, c := range seeds {
					value ^= products[c][inverses[x^i]]
				}
			}
			shards[x][at] = value
		}
	}
	return shards
}

// other: a byte unlike this one.
func (d *dice) other(c byte) byte { return c ^ byte(1+d.next(255)) }

// some: so many of the numbers below n, rising.
func (d *dice) some(count, n int) []int {
	var list []int
	for number := range n {
		if d.next(n-number) < count-len(list) {
			list = append(list, number)
		}
	}
	return list
}

// subsets: every rising list of numbers below n.
func subsets(n int) [][]int {
	var lists [][]int
	for mask := range 1 << n {
		var list []int
		for number := range n {
			if mask>>number&1 == 1 {
				list = append(list, number)
			}
		}
		lists = append(lists, list)
	}
	return lists
}

// without: the list with the shards of these numbers made empty, some nil, some not; the other entries are the same slices.
func without(shards [][]byte, missing []int) [][]byte {
	list := slices.Clone(shards)
	for i, number := range missing {
		list[number] = nil
		if i%2 == 1 {
			list[number] = []byte{}
		}
	}
	return list
}

func copies(lists [][]byte) [][]byte {
	all := make([][]byte, len(lists))
	for i, list := range lists {
		all[i] = append([]byte{}, list...)
	}
	return all
}

func alike(a, b [][]byte) bool { return slices.EqualFunc(a, b, bytes.Equal) }

// sameSlices: are the entries of these numbers the very slices: their memory, length and capacity?
func sameSlices(a, b [][]byte, numbers []int) bool {
	for _, i := range numbers {
		if len(a[i]) != len(b[i]) || cap(a[i]) != cap(b[i]) {
			return false
		}
		if cap(a[i]) > 0 && &a[i][:1][0] != &b[i][:1][0] {
			return false
		}
	}
	return true
}

// scene: shards amid other bytes, their list amid other entries, so that whatever is written beside them is seen.
type scene struct {
	shards           [][]byte
	list, wasList    [][]byte
	arrays, wasBytes [][]byte
}

const ahead, behind = 5, 11

// stage lays the shards out so. An empty shard has memory behind it as well.
func stage(shards [][]byte) *scene {
	s := &scene{}
	d := dice(len(shards))
	s.list = d.shards(ahead+len(shards)+behind, 3)
	for i, shard := range shards {
		array := slices.Concat(d.bytes(ahead), shard, d.bytes(behind))
		s.arrays = append(s.arrays, array)
		s.list[ahead+i] = array[ahead : ahead+len(shard)]
	}
	s.shards = s.list[ahead : ahead+len(shards)]
	s.wasList, s.wasBytes = slices.Clone(s.list), copies(s.arrays)
	return s
}

// kept: are all entries the same slices, but those of the given numbers; and all bytes of the arrays what they were, but those within the given shards?
func (s *scene) kept(but []int, written []int) bool {
	var entries []int
	for i := range s.list {
		if !slices.Contains(but, i-ahead) {
			entries = append(entries, i)
		}
	}
	if !sameSlices(s.list, s.wasList, entries) {
		return false
	}
	for i, array := range s.arrays {
		was := bytes.Clone(s.wasBytes[i])
		if slices.Contains(written, i) {
			copy(was[ahead:len(was)-behind], array[ahead:])
		}
		if !bytes.Equal(array, was) {
			return false
		}
	}
	return true
}

// shardsOf: shards of these lengths; every other empty one is nil.
func shardsOf(lengths ...int) [][]byte {
	d := dice(len(lengths))
	shards := make([][]byte, len(lengths))
	for i, n := range lengths {
		if n > 0 || i%2 == 0 {
			shards[i] = d.bytes(n)
		}
	}
	return shards
}

// countLists calls with each list of n numbers below base.
func countLists(n, base int, with func(list []int)) {
	list := make([]int, n)
	for {
		with(list)
		at := 0
		for at < n && list[at] == base-1 {
			list[at] = 0
			at++
		}
		if at == n {
			return
		}
		list[at]++
	}
}

// endsQuietly: the call ends, and doesn't panic.
func endsQuietly(t *testing.T, name string, run func()) {
	t.Helper()
	defer func() {
		if p := recover(); p != nil {
			t.Errorf("%s panics: %v", name, p)
		}
	}()
	run()
}
