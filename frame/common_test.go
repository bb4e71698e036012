package frame

import (
	"bytes"
	"fmt"
	"slices"
	"testing"

	"cullet/api"
	"cullet/engine"
)

// What the tests hold the package against: models that follow the chapter's words, without a call of the package. Sums go bit by bit, files are laid number by number, each head is compared with each, and blocks are given back one by one, by an engine.

// sumFrom is P25.1's rule, from any r on.
func sumFrom(r uint32, lists ...[]byte) uint32 {
	for _, value := range slices.Concat(lists...) {
		r ^= uint32(value)
		for range 8 {
			out := r & 1
			r >>= 1
			if out == 1 {
				r ^= 0xEDB88320
			}
		}
	}
	return ^r
}

func sumOf(lists ...[]byte) uint32 { return sumFrom(1<<32-1, lists...) }

// low: the number in so many bytes, the lowest first.
func low(n uint64, size int) []byte {
	var list []byte
	for range size {
		list = append(list, byte(n%256))
		n /= 256
	}
	return list
}

// fromLow: what they say.
func fromLow(list []byte) uint64 {
	var n uint64
	for _, value := range slices.Backward(list) {
		n = n*256 + uint64(value)
	}
	return n
}

// said: the numbers that the bytes of a head say, be it good or not.
type said struct {
	magic                                                              string
	family, data, parity, index, block, size, length, stamp, zeros, by uint64
}

// saying: by is xored to the sum.
func saying(h api.Head) said {
	return said{"\x43\x55\x4C\x4C\x01", uint64(h.Family), uint64(h.Data), uint64(h.Parity), uint64(h.Index), uint64(h.Block), uint64(h.Size), uint64(h.Length), h.Stamp, 0, 0}
}

// bytes: the 48.
func (s said) bytes() []byte {
	list := slices.Concat([]byte(s.magic), low(s.family, 1), low(s.data, 2), low(s.parity, 2), low(s.index, 2), low(s.block, 4), low(s.size, 8), low(s.length, 8), low(s.stamp, 8), low(s.zeros, 4))
	return append(list, low(uint64(sumOf(list))^s.by, 4)...)
}

func powerAbove(n int) int {
	power := 1
	for power < n {
		power *= 2
	}
	return power
}

// lengthFor: the length of the shards for so many bytes.
func lengthFor(f api.Family, k, size int) int {
	length := size / k
	for k*length < size || f == api.Long && length%2 == 1 {
		length++
	}
	return length
}

func isValid(f api.Family, k, m int) bool {
	if k < 1 || m < 1 || k > 65536 || m > 65536 {
		return false
	}
	switch f {
	case api.Vander, api.Cauchy:
		return k+m <= 256
	case api.Long:
		return powerAbove(m)+k <= 65536
	}
	return false
}

func isBlockFor(f api.Family, block int) bool {
	return block >= 1 && block <= 1<<20 && !(f == api.Long && block%2 == 1)
}

// isGood is the chapter's 'It is good'.
func isGood(h api.Head) bool {
	if !isValid(h.Family, h.Data, h.Parity) || h.Size < 1 || h.Size > 1<<40 || !isBlockFor(h.Family, h.Block) {
		return false
	}
	count := h.Data + h.Parity
	return h.Index >= 0 && h.Index < count && h.Length == lengthFor(h.Family, h.Data, h.Size) && blockCount(h) <= 65536 && count*h.Length <= 1<<26
}

func blockCount(h api.Head) int {
	count := h.Length / h.Block
	if h.Length%h.Block > 0 {
		count++
	}
	return count
}

// blockOf: the shard's bytes in that block.
func blockOf(h api.Head, shard []byte, b int) []byte {
	if (b+1)*h.Block > h.Length {
		return shard[b*h.Block : h.Length]
	}
	return shard[b*h.Block : (b+1)*h.Block]
}

// laid: the file of a head and a shard.
func laid(h api.Head, shard []byte) []byte {
	file := saying(h).bytes()
	head := slices.Clone(file[:44])
	for b := range blockCount(h) {
		block := blockOf(h, shard, b)
		file = append(append(file, block...), low(uint64(sumOf(head, low(uint64(b), 4), block)), 4)...)
	}
	return file
}

// laidAll: the files of these shards.
func laidAll(h api.Head, shards [][]byte) [][]byte {
	var files [][]byte
	for i, shard := range shards {
		h.Index = i
		files = append(files, laid(h, shard))
	}
	return files
}

// headIn is P25.4.
func headIn(file []byte) (api.Head, api.Errno) {
	if len(file) < 48 {
		return api.Head{}, api.ErrCut
	}
	if !bytes.Equal(file[:5], []byte{0x43, 0x55, 0x4C, 0x4C, 1}) {
		return api.Head{}, api.ErrMagic
	}
	if fromLow(file[44:48]) != uint64(sumOf(file[:44])) {
		return api.Head{}, api.ErrSum
	}
	size, length := fromLow(file[16:24]), fromLow(file[24:32])
	h := api.Head{Family: api.Family(file[5]), Data: int(fromLow(file[6:8])), Parity: int(fromLow(file[8:10])), Index: int(fromLow(file[10:12])), Block: int(fromLow(file[12:16])), Size: int(size), Length: int(length), Stamp: fromLow(file[32:40])}
	if fromLow(file[40:44]) != 0 || size >= 1<<63 || length >= 1<<63 || !isGood(h) {
		return api.Head{}, api.ErrHead
	}
	return h, api.OK
}

// placesOf: where in a file the block begins, its sum begins and its sum ends.
func placesOf(h api.Head, b int) (from, sum, end int) {
	from = 48 + b*(h.Block+4)
	sum = from + len(blockOf(h, make([]byte, h.Length), b))
	return from, sum, sum + 4
}

// reading: what Read answers.
type reading struct {
	head  api.Head
	shard []byte
	bad   []int
	fault api.Errno
}

// readIn is P25.5.
func readIn(file []byte) reading {
	h, fault := headIn(file)
	if fault != api.OK {
		return reading{fault: fault}
	}
	r := reading{head: h}
	for b := range blockCount(h) {
		from, sum, end := placesOf(h, b)
		if end <= len(file) && fromLow(file[sum:end]) == uint64(sumOf(file[:44], low(uint64(b), 4), file[from:sum])) {
			r.shard = append(r.shard, file[from:sum]...)
		} else {
			r.shard = append(r.shard, make([]byte, sum-from)...)
			r.bad = append(r.bad, b)
		}
	}
	if _, _, end := placesOf(h, blockCount(h)-1); len(file) > end {
		return reading{fault: api.ErrCut}
	}
	return r
}

// choice: what Choose answers.
type choice struct {
	head    api.Head
	numbers []int
	fault   api.Errno
}

func (c choice) String() string { return fmt.Sprint(c.head, c.numbers, int(c.fault)) }

// sameGroup: are they equal in all but Index?
func sameGroup(a, b api.Head) bool {
	return a.Family == b.Family && a.Data == b.Data && a.Parity == b.Parity && a.Size == b.Size && a.Length == b.Length && a.Block == b.Block && a.Stamp == b.Stamp
}

// chosenOf is P25.7, over what Read answers for the files.
func chosenOf(readings []reading) choice {
	most := 0
	best := choice{fault: api.ErrGroup}
	for _, r := range readings {
		if r.fault != api.OK || r.head.Stamp < best.head.Stamp {
			continue
		}
		numbers, there := numbersIn(readings, r.head)
		// A later file takes the place of an earlier one only where its group is more.
		if best.fault == api.OK && r.head.Stamp == best.head.Stamp && there <= most {
			continue
		}
		most = there
		best = choice{r.head, numbers, api.OK}
		best.head.Index = 0
	}
	return best
}

// numbersIn: for each shard of the head's group the first file, and how many shards have one.
func numbersIn(readings []reading, h api.Head) (numbers []int, there int) {
	for index := range h.Data + h.Parity {
		number := slices.IndexFunc(readings, func(r reading) bool {
			return r.fault == api.OK && sameGroup(r.head, h) && r.head.Index == index
		})
		numbers = append(numbers, number)
		if number >= 0 {
			there++
		}
	}
	return numbers, there
}

// opened: what Open and Renew answer.
type opened struct {
	data  []byte
	fresh [][]byte
	bad   []int
	fault api.Errno
}

func readAll(files [][]byte) []reading {
	var list []reading
	for _, file := range files {
		list = append(list, readIn(file))
	}
	return list
}

// openedOf is P25.8 and P25.9.
func openedOf(files [][]byte) opened {
	readings := readAll(files)
	c := chosenOf(readings)
	if c.fault != api.OK {
		return opened{fault: c.fault}
	}
	o := opened{}
	shards := make([][]byte, len(c.numbers))
	for i, number := range c.numbers {
		if number < 0 || len(readings[number].bad) > 0 {
			o.bad = append(o.bad, i)
		}
	}
	for b := range blockCount(c.head) {
		column := make([][]byte, len(c.numbers))
		for i, number := range c.numbers {
			if number >= 0 && !slices.Contains(readings[number].bad, b) {
				column[i] = slices.Clone(blockOf(c.head, readings[number].shard, b))
			}
		}
		if present(column) < c.head.Data {
			return opened{fault: api.ErrTooFew}
		}
		if present(column) < len(column) {
			giveBack(c.head, column)
		}
		for i, block := range column {
			shards[i] = append(shards[i], block...)
		}
	}
	o.data = slices.Concat(shards[:c.head.Data]...)[:c.head.Size]
	o.fresh = laidAll(c.head, shards)
	return o
}

func present(column [][]byte) int {
	count := 0
	for _, block := range column {
		if len(block) > 0 {
			count++
		}
	}
	return count
}

// giveBack: the empty ones, as the document's section 'The code' says.
func giveBack(h api.Head, column [][]byte) {
	if fault := restorerOf(setting{h.Family, h.Data, h.Parity}).Reconstruct(column); fault != api.OK {
		panic(fault)
	}
}

// setting: the parameters of a code.
type setting struct {
	f    api.Family
	k, m int
}

func (s setting) String() string { return fmt.Sprintf("family %d, %d + %d", s.f, s.k, s.m) }

func (s setting) count() int { return s.k + s.m }

// width: the bytes of an element.
func (s setting) width() int {
	if s.f == api.Long {
		return 2
	}
	return 1
}

func each(pairs [][2]int, families ...api.Family) []setting {
	var list []setting
	for _, p := range pairs {
		for _, f := range families {
			list = append(list, setting{f, p[0], p[1]})
		}
	}
	return list
}

func small() []setting {
	return each([][2]int{{1, 1}, {2, 1}, {1, 2}, {2, 2}, {3, 2}}, api.Vander, api.Cauchy, api.Long)
}

// middling: more shards.
func middling() []setting {
	list := each([][2]int{{10, 4}, {4, 9}}, api.Vander, api.Cauchy, api.Long)
	return append(list, setting{api.Vander, 128, 128}, setting{api.Cauchy, 255, 1}, setting{api.Cauchy, 1, 255}, setting{api.Long, 300, 17})
}

// head: that of the first shard of an object.
func (s setting) head(size, block int, stamp uint64) api.Head {
	return api.Head{Family: s.f, Data: s.k, Parity: s.m, Size: size, Length: lengthFor(s.f, s.k, size), Block: block, Stamp: stamp}
}

// manyOptions: every backend, with workers, stripes, caches and schedules of several kinds.
func (s setting) manyOptions() []api.Options {
	backends := []api.Backend{api.Table, api.Nibble, api.Sliced}
	if s.f == api.Long {
		backends = []api.Backend{api.Direct, api.Fast}
	}
	var list []api.Options
	for i, b := range backends {
		o := []api.Options{{Workers: 1, Stripe: 1 << 24, Cache: 1024}, {Workers: 3, Stripe: 1, Cache: 1}, {Workers: 2, Stripe: 3, Cache: 2, Scripted: true, Picks: []int{2, -1, 7, 1, 1, 0}}}[i]
		o.Family, o.Backend, o.Data, o.Parity = s.f, b, s.k, s.m
		list = append(list, o)
	}
	return list
}

func (s setting) options() api.Options { return s.manyOptions()[0] }

// restorers: the tests' own engines, one a code.
var restorers = map[setting]*engine.Engine{}

func restorerOf(s setting) *engine.Engine {
	if restorers[s] == nil {
		o := s.manyOptions()[1]
		o.Cache = 1024
		e, fault := engine.New(o)
		if fault != api.OK {
			panic(fault)
		}
		restorers[s] = e
	}
	return restorers[s]
}

// codeword: the shards of which these are the data.
func (s setting) codeword(data []byte) [][]byte {
	length := lengthFor(s.f, s.k, len(data))
	shards := make([][]byte, s.count())
	for i := range shards {
		shards[i] = make([]byte, length)
	}
	for at, value := range data {
		shards[at/length][at%length] = value
	}
	if fault := restorerOf(s).Encode(shards); fault != api.OK {
		panic(fault)
	}
	return shards
}

// dice: numbers that look like no pattern.
type dice uint64

func (d *dice) next(n int) int {
	*d = *d*6364136223846793005 + 1442695040888963407
	return int(uint64(*d)>>33) % n
}

func (d *dice) bytes(n int) []byte {
	list := make([]byte, n)
	for i := range list {
		list[i] = byte(d.next(256))
	}
	return list
}

func (d *dice) shards(count, length int) [][]byte {
	var list [][]byte
	for range count {
		list = append(list, d.bytes(length))
	}
	return list
}

// oneOf: a number of the list.
func (d *dice) oneOf(list ...int) int { return list[d.next(len(list))] }

// shuffle: the lists in any order.
func (d *dice) shuffle(lists [][]byte) {
	for i := range lists {
		j := i + d.next(len(lists)-i)
		lists[i], lists[j] = lists[j], lists[i]
	}
}

func copies(lists [][]byte) [][]byte {
	all := make([][]byte, len(lists))
	for i, list := range lists {
		all[i] = bytes.Clone(list)
	}
	return all
}

func alike(a, b [][]byte) bool { return slices.EqualFunc(a, b, bytes.Equal) }

// changed: the list with that byte xored.
func changed(list []byte, at int, mask byte) []byte {
	list = bytes.Clone(list)
	list[at] ^= mask
	return list
}

// countLists calls with each list of n numbers below base.
func countLists(n, base int, with func(list []int)) {
	list := make([]int, n)
	for {
		with(slices.Clone(list))
		at := 0
		for at < n && list[at] == base-1 {
			list[at] = 0
			at++
		}
		if at == n {
			return
		}
		list[at]++
	}
}

// The tries: a call against its model.

func checkRead(t *testing.T, what string, file []byte) reading {
	t.Helper()
	want := readIn(file)
	h, shard, bad, fault := Read(file)
	if h != want.head || !bytes.Equal(shard, want.shard) || !slices.Equal(bad, want.bad) || fault != want.fault {
		t.Fatalf("%s: Read: %v, %v, %v, %d, it is to be %v", what, h, shard, bad, fault, want)
	}
	checkReadHead(t, what, file)
	return want
}

func checkReadHead(t *testing.T, what string, file []byte) {
	t.Helper()
	want, wantFault := headIn(file)
	if h, fault := ReadHead(file); h != want || fault != wantFault {
		t.Fatalf("%s: ReadHead: %v, %d, it is to be %v, %d", what, h, fault, want, wantFault)
	}
}

func checkChoose(t *testing.T, what string, files [][]byte, want choice) {
	t.Helper()
	h, numbers, fault := Choose(files)
	if h != want.head || !slices.Equal(numbers, want.numbers) || fault != want.fault {
		t.Fatalf("%s: Choose: %v, it is to be %v", what, choice{h, numbers, fault}, want)
	}
}

// checkOpened: Choose, Open and Renew.
func checkOpened(t *testing.T, what string, files [][]byte) opened {
	t.Helper()
	checkChoose(t, what, files, chosenOf(readAll(files)))
	want := openedOf(files)
	checkOpen(t, what, files, want)
	return want
}

func checkOpen(t *testing.T, what string, files [][]byte, want opened) {
	t.Helper()
	if data, fault := Open(files); !bytes.Equal(data, want.data) || fault != want.fault {
		t.Fatalf("%s: Open: %v, %d, it is to be %v, %d", what, data, fault, want.data, want.fault)
	}
	fresh, bad, fault := Renew(files)
	if !alike(fresh, want.fresh) || !slices.Equal(bad, want.bad) || fault != want.fault {
		t.Fatalf("%s: Renew: %v, %v, %d, it is to be %v, %v, %d", what, fresh, bad, fault, want.fresh, want.bad, want.fault)
	}
}
