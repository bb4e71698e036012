package engine

import (
	"bytes"
	"fmt"
	"slices"
	"testing"

	"cullet/api"
)

// What the tests hold the package against is worked out here by the document's words, without a call of the package or of the layers below: codewords and lost shards as values of polynomials, by Lagrange's products in fields of the tests' own.

// field: one of 2^bits elements: the powers of 2 and the logarithms, by shifts.
type field struct {
	powers, logs []int
}

var (
	bytesField = makeField(8, 0x11D)
	wordsField = makeField(16, 0x1002D)
	elements   = makeElements()
)

func makeField(bits, modulus int) *field {
	size := 1 << bits
	f := &field{make([]int, size-1), make([]int, size)}
	power := 1
	for n := range f.powers {
		f.powers[n], f.logs[power] = power, n
		power <<= 1
		if power >= size {
			power ^= modulus
		}
	}
	return f
}

func (f *field) mul(a, b int) int {
	if a == 0 || b == 0 {
		return 0
	}
	return f.powers[(f.logs[a]+f.logs[b])%len(f.powers)]
}

// div: b isn't 0.
func (f *field) div(a, b int) int {
	return f.mul(a, f.powers[(len(f.powers)-f.logs[b])%len(f.powers)])
}

// gaps: the product of x + p over the points, but for x itself.
func (f *field) gaps(points []int, x int) int {
	all := 1
	for _, p := range points {
		if p != x {
			all = f.mul(all, x^p)
		}
	}
	return all
}

// weight: Lagrange's product: the value at x, which is no point, of the polynomial that is 1 at the point p and 0 at the other points.
func (f *field) weight(points []int, p, x int) int {
	return f.div(f.gaps(points, x), f.mul(f.gaps(points, p), x^p))
}

// makeElements: w(0) to w(65535), by the Cantor basis: 1, and behind each element the even one whose square and itself have it as their sum.
func makeElements() []int {
	even := make([]int, 65536)
	for y := 0; y < 65536; y += 2 {
		even[wordsField.mul(y, y)^y] = y
	}
	list := []int{0}
	for b := 1; len(list) < 65536; b = even[b] {
		for _, x := range slices.Clone(list) {
			list = append(list, x^b)
		}
	}
	return list
}

// setting: the parameters of a code.
type setting struct {
	f    api.Family
	k, m int
}

func (s setting) String() string { return fmt.Sprintf("family %d, %d + %d", s.f, s.k, s.m) }

func (s setting) isLong() bool { return s.f == api.Long }

func (s setting) count() int { return s.k + s.m }

// small: codes whose every loss can be gone through.
func small() []setting {
	return each([][2]int{{1, 1}, {2, 1}, {1, 2}, {2, 2}, {3, 1}, {3, 2}, {2, 4}, {4, 3}}, api.Vander, api.Cauchy, api.Long)
}

// middling: more shards, losses of which are thrown.
func middling() []setting {
	list := each([][2]int{{10, 4}, {17, 9}, {1, 20}, {33, 8}}, api.Vander, api.Cauchy, api.Long)
	return append(list, each([][2]int{{1, 255}, {255, 1}, {128, 128}}, api.Vander, api.Cauchy)...)
}

func each(pairs [][2]int, families ...api.Family) []setting {
	var list []setting
	for _, p := range pairs {
		for _, f := range families {
			list = append(list, setting{f, p[0], p[1]})
		}
	}
	return list
}

// ofBytes: those of Vander and Cauchy.
func ofBytes(list []setting) []setting { return slices.DeleteFunc(list, setting.isLong) }

func (s setting) backends() []api.Backend {
	if s.isLong() {
		return []api.Backend{api.Direct, api.Fast}
	}
	return []api.Backend{api.Table, api.Nibble, api.Sliced}
}

// options: some of the code.
func (s setting) options() api.Options {
	return api.Options{Family: s.f, Backend: s.backends()[0], Data: s.k, Parity: s.m, Workers: 3, Stripe: 2, Cache: 4}
}

// manyOptions: every backend, with workers, stripes, caches and schedules of all kinds.
func (s setting) manyOptions() []api.Options {
	var list []api.Options
	for i, b := range s.backends() {
		for j, o := range []api.Options{
			{Workers: 1, Stripe: 1 << 24, Cache: 1024},
			{Workers: 4, Stripe: 1, Cache: 1},
			{Workers: 64, Stripe: 3, Cache: 2},
			{Workers: 3, Stripe: 2, Cache: 5, Scripted: true, Picks: []int{2, -1, 7, 1, 1, 0, 2, -5, 1 << 60}},
			{Workers: 1, Stripe: 5, Cache: 3, Scripted: true},
		} {
			if (i+j)%2 == 0 || j > 2 {
				o.Family, o.Backend, o.Data, o.Parity = s.f, b, s.k, s.m
				list = append(list, o)
			}
		}
	}
	return list
}

func made(t *testing.T, o api.Options) *Engine {
	t.Helper()
	e, fault := New(o)
	if e == nil || fault != api.OK {
		t.Fatalf("New(%+v): %v, %d", o, e, fault)
	}
	return e
}

func (s setting) engines(t *testing.T) []*Engine {
	t.Helper()
	var list []*Engine
	for _, o := range s.manyOptions() {
		list = append(list, made(t, o))
	}
	return list
}

// between: the numbers from a to b - 1.
func between(a, b int) []int {
	var list []int
	for n := a; n < b; n++ {
		list = append(list, n)
	}
	return list
}

// field: the code's.
func (s setting) field() *field {
	if s.isLong() {
		return wordsField
	}
	return bytesField
}

// sizes: M and N of Long.
func (s setting) sizes() (size, places int) {
	return powerAbove(s.m), powerAbove(powerAbove(s.m) + s.k)
}

func powerAbove(n int) int {
	power := 1
	for power < n {
		power *= 2
	}
	return power
}

// point: the element at which the shard of that number stands.
func (s setting) point(number int) int {
	size, _ := s.sizes()
	switch {
	case !s.isLong():
		return number
	case number < s.k:
		return elements[size+number]
	}
	return elements[number-s.k]
}

func (s setting) points(numbers []int) []int {
	var list []int
	for _, number := range numbers {
		list = append(list, s.point(number))
	}
	return list
}

// factor: of data shard i in parity shard j.
func (s setting) factor(i, j int) int {
	size, _ := s.sizes()
	x, p := s.point(s.k+j), s.point(i)
	switch s.f {
	case api.Vander:
		return s.field().weight(s.points(between(0, s.k)), p, x)
	case api.Cauchy:
		return s.field().div(1, x^p)
	}
	return s.field().div(elements[(size+i)/size], x^p)
}

// scale: of Cauchy the shards times these numbers are the values of a polynomial of a degree below k.
func (s setting) scale(number int) int {
	if s.f != api.Cauchy {
		return 1
	}
	return s.field().gaps(between(0, s.k), number)
}

// row: factors, each of the shard of its number.
type row map[int]int

// parityRow: of the data in parity shard j.
func (s setting) parityRow(j int) row {
	r := row{}
	for i := range s.k {
		r[i] = s.factor(i, j)
	}
	return r
}

// backRow: of present shards in the missing one of that number.
func (s setting) backRow(missing []int, number int) row {
	r, f := row{}, s.field()
	used, points := s.used(missing)
	for _, u := range used {
		r[u] = f.div(f.mul(f.weight(points, s.point(u), s.point(number)), s.scale(u)), s.scale(number))
	}
	return r
}

// used: the shards that a missing one is made of, and the points of the polynomial. Long: all points that aren't lost, at some of which there is no shard but 0.
func (s setting) used(missing []int) (numbers, points []int) {
	numbers = slices.DeleteFunc(between(0, s.count()), func(n int) bool { return slices.Contains(missing, n) })
	if !s.isLong() {
		return numbers[:s.k], s.points(numbers[:s.k])
	}
	size, places := s.sizes()
	return numbers, append(s.points(numbers), elements[size+s.k:places]...)
}

// at: the byte, or of Long the word, of the shard's column.
func (s setting) at(shard []byte, column int) int {
	if s.isLong() {
		return int(shard[2*column]) + 256*int(shard[2*column+1])
	}
	return int(shard[column])
}

// sum: the shard that the row's factors make.
func (s setting) sum(r row, shards [][]byte, length int) []byte {
	sum := make([]byte, length)
	for i, factor := range r {
		for t := range length / s.width() {
			v := s.field().mul(factor, s.at(shards[i], t))
			if s.isLong() {
				sum[2*t] ^= byte(v % 256)
				sum[2*t+1] ^= byte(v / 256)
			} else {
				sum[t] ^= byte(v)
			}
		}
	}
	return sum
}

// width: the bytes of a column's value.
func (s setting) width() int {
	if s.isLong() {
		return 2
	}
	return 1
}

// encoded: what must stand behind Encode, in memory of its own.
func (s setting) encoded(shards [][]byte) [][]byte {
	left := copies(shards)
	for j := range s.m {
		left[s.k+j] = s.sum(s.parityRow(j), shards, len(shards[0]))
	}
	return left
}

// restored: what must stand behind Reconstruct, in memory of its own.
func (s setting) restored(shards [][]byte, missing []int) [][]byte {
	left := copies(shards)
	if len(missing) == s.count() {
		return left
	}
	used, _ := s.used(missing)
	for _, number := range missing {
		left[number] = s.sum(s.backRow(missing, number), shards, len(shards[used[0]]))
	}
	return left
}

// updated: what must stand behind Update, in memory of its own: to the parity that of the differences is added.
func (s setting) updated(shards, fresh [][]byte) [][]byte {
	differences := make([][]byte, s.count())
	for i := range differences {
		differences[i] = make([]byte, len(shards[0]))
		if i < s.k && len(fresh[i]) > 0 {
			differences[i] = added(shards[i], fresh[i])
		}
	}
	left := copies(shards)
	for i, turn := range s.encoded(differences)[s.k:] {
		left[s.k+i] = added(left[s.k+i], turn)
	}
	return left
}

func added(a, b []byte) []byte {
	sum := bytes.Clone(a)
	for i, x := range b {
		sum[i] ^= x
	}
	return sum
}

// dice: numbers that look like no pattern.
type dice uint64

func (d *dice) next(n int) int {
	*d = *d*6364136223846793005 + 1442695040888963407
	return int(uint64(*d)>>33) % n
}

func (d *dice) bytes(n int) []byte {
	list := make([]byte, n)
	for i := range list {
		list[i] = byte(d.next(256))
	}
	return list
}

func (d *dice) shards(count, length int) [][]byte {
	var list [][]byte
	for range count {
		list = append(list, d.bytes(length))
	}
	return list
}

// codeword: that of data of the dice. Of Long the length is brought to an even one.
func (d *dice) codeword(s setting, length int) [][]byte {
	return s.encoded(d.shards(s.count(), s.fit(length)))
}

// fit: the length, of Long brought to an even one.
func (s setting) fit(length int) int { return (length + s.width() - 1) / s.width() * s.width() }

// some: so many of the numbers below n, rising.
func (d *dice) some(count, n int) []int {
	var list []int
	for number := range n {
		if d.next(n-number) < count-len(list) {
			list = append(list, number)
		}
	}
	return list
}

// picks: some of them, a few below 0.
func (d *dice) picks(count, below int) []int {
	list := make([]int, count)
	for i := range list {
		list[i] = d.next(below)
		if d.next(10) == 0 {
			list[i] = -1 - d.next(below)
		}
	}
	return list
}

// subsets: every rising list of numbers below n.
func subsets(n int) [][]int {
	var lists [][]int
	for mask := range 1 << n {
		var list []int
		for number := range n {
			if mask>>number&1 == 1 {
				list = append(list, number)
			}
		}
		lists = append(lists, list)
	}
	return lists
}

// without: the list with the shards of these numbers made empty, some nil, some not; the other entries are the same slices.
func without(shards [][]byte, missing []int) [][]byte {
	list := slices.Clone(shards)
	for i, number := range missing {
		list[number] = nil
		if i%2 == 1 {
			list[number] = []byte{}
		}
	}
	return list
}

func copies(lists [][]byte) [][]byte {
	all := make([][]byte, len(lists))
	for i, list := range lists {
		all[i] = append([]byte{}, list...)
	}
	return all
}

func alike(a, b [][]byte) bool { return slices.EqualFunc(a, b, bytes.Equal) }

func sameKeys(a, b [][]int) bool { return slices.EqualFunc(a, b, slices.Equal) }

// sameSlice: is it the very slice: its memory, length and capacity?
func sameSlice(a, b []byte) bool {
	return len(a) == len(b) && cap(a) == cap(b) && (cap(a) == 0 || &a[:1][0] == &b[:1][0])
}

// scene: shards amid other bytes, their list amid other entries, so that whatever is written beside them is seen.
type scene struct {
	shards           [][]byte
	list, wasList    [][]byte
	arrays, wasBytes [][]byte
}

const ahead, behind = 3, 7

// stage lays the shards out so. An empty shard has memory behind it as well.
func stage(shards [][]byte) *scene {
	s := &scene{}
	d := dice(len(shards))
	s.list = d.shards(ahead+len(shards)+behind, 3)
	for i, shard := range shards {
		array := slices.Concat(d.bytes(ahead), shard, d.bytes(behind))
		s.arrays = append(s.arrays, array)
		s.list[ahead+i] = array[ahead : ahead+len(shard)]
	}
	s.shards = s.list[ahead : ahead+len(shards)]
	s.wasList, s.wasBytes = slices.Clone(s.list), copies(s.arrays)
	return s
}

// kept: are all entries the same slices, but those of the given numbers; and all bytes of the arrays what they were, but those within the given shards?
func (s *scene) kept(but []int, written []int) bool {
	for i := range s.list {
		if _, found := slices.BinarySearch(but, i-ahead); !found && !sameSlice(s.list[i], s.wasList[i]) {
			return false
		}
	}
	for i, array := range s.arrays {
		was := bytes.Clone(s.wasBytes[i])
		if _, found := slices.BinarySearch(written, i); found {
			copy(was[ahead:len(was)-behind], array[ahead:])
		}
		if !bytes.Equal(array, was) {
			return false
		}
	}
	return true
}

// shardsOf: shards of these lengths; every other empty one is nil.
func shardsOf(lengths ...int) [][]byte {
	d := dice(len(lengths))
	shards := make([][]byte, len(lengths))
	for i, n := range lengths {
		if n > 0 || i%2 == 0 {
			shards[i] = d.bytes(n)
		}
	}
	return shards
}

// countLists calls with each list of n numbers below base.
func countLists(n, base int, with func(list []int)) {
	list := make([]int, n)
	for {
		with(slices.Clone(list))
		at := 0
		for at < n && list[at] == base-1 {
			list[at] = 0
			at++
		}
		if at == n {
			return
		}
		list[at]++
	}
}

// endsQuietly: the call ends, and doesn't panic.
func endsQuietly(t *testing.T, name string, run func()) {
	t.Helper()
	defer func() {
		if p := recover(); p != nil {
			t.Errorf("%s panics: %v", name, p)
		}
	}()
	run()
}

// The tests' own sums: a row that gives a parity shard back of the data is that of the parity; of Long also by the polynomial through all points of the data's side.
func TestTheTestsOwnSums(t *testing.T) {
	if elements[1] != 1 || elements[2] != 0xACCA || elements[3] != 0xACCB || elements[1<<15] != 0x991E {
		t.Fatalf("the elements: %x", elements[:4])
	}
	d := dice(1)
	for _, s := range append(small(), middling()...) {
		for range 10 {
			i, j := d.next(s.k), d.next(s.m)
			want := s.factor(i, j)
			if s.isLong() {
				size, places := s.sizes()
				if x := s.field().weight(elements[size:places], s.point(i), s.point(s.k+j)); x != want {
					t.Fatalf("%v: the factor of data %d in parity %d is %x, and %x by interpolation", s, i, j, want, x)
				}
			}
			if x := s.backRow(between(s.k, s.count()), s.k+j)[i]; x != want {
				t.Fatalf("%v: the factor of data %d in parity %d is %x, and %x where the parity is lost", s, i, j, want, x)
			}
		}
	}
}
