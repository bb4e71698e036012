package store

import (
	"bytes"
	"fmt"
	"slices"
	"testing"

	"cullet/api"
	"cullet/frame"
)

// What the tests hold the package against: a model that follows the chapter's words, without a call of the package. Each error is a question of its own, and the first one that applies is the answer; who keeps what is looked up anew in each call. What the chapter says by layer 25's calls the model asks of that layer.

// sumOf is layer 25's sum, bit by bit.
func sumOf(list []byte) uint32 {
	r := ^uint32(0)
	for _, value := range list {
		r ^= uint32(value)
		for range 8 {
			out := r & 1
			r >>= 1
			if out == 1 {
				r ^= 0xEDB88320
			}
		}
	}
	return ^r
}

// low: the number in so many bytes, the lowest first.
func low(n uint64, size int) []byte {
	var list []byte
	for range size {
		list = append(list, byte(n%256))
		n /= 256
	}
	return list
}

// fromLow: what they say.
func fromLow(list []byte) uint64 {
	var n uint64
	for _, value := range slices.Backward(list) {
		n = n*256 + uint64(value)
	}
	return n
}

// tombOf: the file.
func tombOf(stamp uint64) []byte {
	file := append([]byte{84, 79, 77, 66}, low(stamp, 8)...)
	return append(file, low(uint64(sumOf(file)), 4)...)
}

func isTomb(file []byte) bool {
	return len(file) == 16 && bytes.Equal(file[:4], []byte{84, 79, 77, 66}) && fromLow(file[12:]) == uint64(sumOf(file[:12]))
}

// question: an error, and whether it applies.
type question struct {
	fault   api.Errno
	applies bool
}

// firstOf: the answer is the error that is named first.
func firstOf(list ...question) api.Errno {
	for _, q := range list {
		if q.applies {
			return q.fault
		}
	}
	return api.OK
}

// answer: what a call answers; of each call what it has.
type answer struct {
	data    []byte
	numbers []int
	fault   api.Errno
}

func (a answer) equals(b answer) bool {
	return a.fault == b.fault && bytes.Equal(a.data, b.data) && slices.Equal(a.numbers, b.numbers)
}

// holding: a node and a name.
type holding struct {
	node int
	name string
}

// model is a store.
type model struct {
	options api.Options
	block   int
	down    []bool
	files   map[holding][]byte
	stamp   uint64
}

func newModel(o api.Options, block, nodes int) *model {
	return &model{options: o, block: block, down: make([]bool, nodes), files: map[holding][]byte{}}
}

func (m *model) count() int { return m.options.Data + m.options.Parity }

func (m *model) home(name string) []int {
	h := int(sumOf([]byte(name)) % uint32(len(m.down)))
	var home []int
	for i := range m.count() {
		home = append(home, (h+i)%len(m.down))
	}
	return home
}

func isNoName(name string) bool { return name == "" || len(name) > 64 }

func (m *model) isNoNode(node int) bool { return node < 0 || node >= len(m.down) }

// up: how many home nodes are.
func (m *model) up(name string) int {
	count := 0
	for _, node := range m.home(name) {
		if !m.down[node] {
			count++
		}
	}
	return count
}

// forWriting is W.
func (m *model) forWriting() int { return max(m.options.Data, m.options.Parity+1) }

// reading: a file that reads well.
type reading struct {
	file   []byte
	stamp  uint64
	isTomb bool
}

// readings: the files of the home nodes that are up that read well.
func (m *model) readings(name string) []reading {
	var list []reading
	for i, node := range m.home(name) {
		file, there := m.files[holding{node, name}]
		if !there || m.down[node] {
			continue
		}
		if isTomb(file) {
			list = append(list, reading{file, fromLow(file[4:12]), true})
			continue
		}
		h, _, _, fault := frame.Read(file)
		o := m.options
		if fault == api.OK && h.Family == o.Family && h.Data == o.Data && h.Parity == o.Parity && h.Block == m.block && h.Size <= 1<<20 && h.Index == i {
			list = append(list, reading{file, h.Stamp, false})
		}
	}
	return list
}

// newest is T.
func newest(list []reading) uint64 {
	var stamp uint64
	for _, r := range list {
		stamp = max(stamp, r.stamp)
	}
	return stamp
}

func isDeleted(list []reading) bool {
	return slices.ContainsFunc(list, func(r reading) bool { return r.isTomb && r.stamp == newest(list) })
}

// shardFiles: those that are no tombs.
func shardFiles(list []reading) [][]byte {
	var files [][]byte
	for _, r := range list {
		if !r.isTomb {
			files = append(files, r.file)
		}
	}
	return files
}

// isNone: does Get find no object there?
func isNone(list []reading) bool { return len(list) == 0 || isDeleted(list) }

// isTooFew: does layer 25 not open it?
func isTooFew(list []reading) bool {
	_, fault := frame.Open(shardFiles(list))
	return fault == api.ErrTooFew
}

func (m *model) get(name string) answer {
	list := m.readings(name)
	fault := firstOf(
		question{api.ErrName, isNoName(name)},
		question{api.ErrQuorum, m.up(name) < m.options.Data},
		question{api.ErrNone, isNone(list)},
		question{api.ErrTooFew, isTooFew(list)})
	if fault != api.OK {
		return answer{fault: fault}
	}
	data, fault := frame.Open(shardFiles(list))
	return answer{data: data, fault: fault}
}

func (m *model) put(name string, data []byte) answer {
	fault := firstOf(
		question{api.ErrName, isNoName(name)},
		question{api.ErrNoData, len(data) == 0},
		question{api.ErrSize, len(data) > 1<<20},
		question{api.ErrQuorum, m.up(name) < m.forWriting()})
	if fault == api.OK {
		m.seal(name, data)
	}
	return answer{fault: fault}
}

func (m *model) seal(name string, data []byte) {
	m.stamp++
	files, fault := frame.Seal(m.options, m.block, m.stamp, data)
	if fault != api.OK {
		panic(fault)
	}
	m.keep(name, files)
}

// keep: the home nodes that are up; those that kept something else.
func (m *model) keep(name string, files [][]byte) []int {
	var others []int
	for i, node := range m.home(name) {
		if m.down[node] {
			continue
		}
		if was, there := m.files[holding{node, name}]; !there || !bytes.Equal(was, files[i]) {
			others = append(others, node)
		}
		m.files[holding{node, name}] = bytes.Clone(files[i])
	}
	return others
}

func (m *model) tombs(stamp uint64) [][]byte {
	var files [][]byte
	for range m.count() {
		files = append(files, tombOf(stamp))
	}
	return files
}

func (m *model) patch(name string, at int, data []byte) answer {
	list := m.readings(name)
	whole, _ := frame.Open(shardFiles(list))
	isNoPlace := at < 0 || at > len(whole) || len(data) > len(whole)-at
	fault := firstOf(
		question{api.ErrName, isNoName(name)},
		question{api.ErrQuorum, m.up(name) < m.forWriting()},
		question{api.ErrNone, isNone(list)},
		question{api.ErrTooFew, isTooFew(list)},
		question{api.ErrPlace, isNoPlace})
	if fault == api.OK && len(data) > 0 {
		m.seal(name, slices.Concat(whole[:at], data, whole[at+len(data):]))
	}
	return answer{fault: fault}
}

func (m *model) delete(name string) answer {
	fault := firstOf(
		question{api.ErrName, isNoName(name)},
		question{api.ErrQuorum, m.up(name) < m.forWriting()},
		question{api.ErrNone, isNone(m.readings(name))})
	if fault == api.OK {
		m.stamp++
		m.keep(name, m.tombs(m.stamp))
	}
	return answer{fault: fault}
}

func (m *model) heal(name string) answer {
	list := m.readings(name)
	fault := firstOf(
		question{api.ErrName, isNoName(name)},
		question{api.ErrQuorum, m.up(name) < m.forWriting()},
		question{api.ErrNone, len(list) == 0},
		question{api.ErrTooFew, !isDeleted(list) && isTooFew(list)})
	if fault != api.OK {
		return answer{fault: fault}
	}
	files := m.tombs(newest(list))
	if !isDeleted(list) {
		files, _, _ = frame.Renew(shardFiles(list))
	}
	return answer{numbers: m.keep(name, files)}
}

func (m *model) names() []string {
	found := map[string]int{}
	for h := range m.files {
		if !isNone(m.readings(h.name)) && m.up(h.name) >= m.options.Data {
			found[h.name] = 1
		}
	}
	var list []string
	for name := range found {
		list = append(list, name)
	}
	slices.SortFunc(list, func(a, b string) int { return bytes.Compare([]byte(a), []byte(b)) })
	return list
}

func (m *model) homeCall(name string) answer {
	if isNoName(name) {
		return answer{fault: api.ErrName}
	}
	return answer{numbers: m.home(name)}
}

func (m *model) file(node int, name string) answer {
	file, there := m.files[holding{node, name}]
	fault := firstOf(
		question{api.ErrName, isNoName(name)},
		question{api.ErrNode, m.isNoNode(node)},
		question{api.ErrNone, !there})
	return answer{data: file, fault: fault}
}

func (m *model) turn(node int, down bool) answer {
	if m.isNoNode(node) {
		return answer{fault: api.ErrNode}
	}
	m.down[node] = down
	return answer{}
}

func (m *model) wipe(node int) answer {
	if m.isNoNode(node) {
		return answer{fault: api.ErrNode}
	}
	for h := range m.files {
		if h.node == node {
			delete(m.files, h)
		}
	}
	return answer{}
}

func (m *model) spoil(node int, name string, at int, mask byte) answer {
	file, there := m.files[holding{node, name}]
	fault := firstOf(
		question{api.ErrName, isNoName(name)},
		question{api.ErrNode, m.isNoNode(node)},
		question{api.ErrNone, !there},
		question{api.ErrPlace, at < 0 || at >= len(file)})
	if fault == api.OK {
		file[at] ^= mask
	}
	return answer{fault: fault}
}

// The kinds of steps.
const (
	put = iota
	get
	patch
	remove
	heal
	home
	file
	down
	up
	wipe
	spoil
)

// step is a call with its arguments; of each call what it takes.
type step struct {
	kind     int
	name     string
	node, at int
	data     []byte
	mask     byte
}

func (x step) String() string {
	kinds := []string{"Put", "Get", "Patch", "Delete", "Heal", "Home", "File", "Down", "Up", "Wipe", "Spoil"}
	return fmt.Sprintf("%s(name %q, node %d, at %d, %d bytes, mask %d)", kinds[x.kind], x.name, x.node, x.at, len(x.data), x.mask)
}

// on: the step made on a store.
func (x step) on(s *Store) (a answer) {
	switch x.kind {
	case put:
		a.fault = s.Put(x.name, x.data)
	case get:
		a.data, a.fault = s.Get(x.name)
	case patch:
		a.fault = s.Patch(x.name, x.at, x.data)
	case remove:
		a.fault = s.Delete(x.name)
	case heal:
		a.numbers, a.fault = s.Heal(x.name)
	case home:
		a.numbers, a.fault = s.Home(x.name)
	case file:
		a.data, a.fault = s.File(x.node, x.name)
	case down:
		a.fault = s.Down(x.node)
	case up:
		a.fault = s.Up(x.node)
	case wipe:
		a.fault = s.Wipe(x.node)
	case spoil:
		a.fault = s.Spoil(x.node, x.name, x.at, x.mask)
	}
	return a
}

// in: the step made in a model.
func (x step) in(m *model) answer {
	switch x.kind {
	case put:
		return m.put(x.name, x.data)
	case get:
		return m.get(x.name)
	case patch:
		return m.patch(x.name, x.at, x.data)
	case remove:
		return m.delete(x.name)
	case heal:
		return m.heal(x.name)
	case home:
		return m.homeCall(x.name)
	case file:
		return m.file(x.node, x.name)
	case down, up:
		return m.turn(x.node, x.kind == down)
	case wipe:
		return m.wipe(x.node)
	}
	return m.spoil(x.node, x.name, x.at, x.mask)
}

// pair is a store and its model, which are given the same steps.
type pair struct {
	s *Store
	m *model
}

func newPair(t *testing.T, o api.Options, block, nodes int) *pair {
	t.Helper()
	s, fault := New(o, block, nodes)
	if fault != api.OK || s == nil {
		t.Fatalf("New(%+v, %d, %d): %d", o, block, nodes, fault)
	}
	return &pair{s, newModel(o, block, nodes)}
}

// do makes the step on both, which must answer alike.
func (p *pair) do(t *testing.T, x step) answer {
	t.Helper()
	got, want := x.on(p.s), x.in(p.m)
	if !got.equals(want) {
		t.Fatalf("%v, %d + %d: %v, it is to be %v", x, p.m.options.Data, p.m.options.Parity, got, want)
	}
	return got
}

// compare: all that can be seen of the store is as in the model.
func (p *pair) compare(t *testing.T, what string, names []string) {
	t.Helper()
	for _, name := range names {
		for node := range p.m.down {
			x := step{kind: file, name: name, node: node}
			if got, want := x.on(p.s), x.in(p.m); !got.equals(want) {
				t.Fatalf("%s: then %v: %v, it is to be %v", what, x, got, want)
			}
		}
		x := step{kind: get, name: name}
		if got, want := x.on(p.s), x.in(p.m); !got.equals(want) {
			t.Fatalf("%s: then %v: %v, it is to be %v", what, x, got, want)
		}
	}
	if got, want := slices.Collect(p.s.Names()), p.m.names(); !slices.Equal(got, want) {
		t.Fatalf("%s: then Names: %q, it is to be %q", what, got, want)
	}
}

// forge: by calls of Spoil the node's file becomes that one, which is as long.
func (p *pair) forge(t *testing.T, node int, name string, wanted []byte) {
	t.Helper()
	for at, value := range p.m.files[holding{node, name}] {
		if value != wanted[at] {
			p.do(t, step{kind: spoil, name: name, node: node, at: at, mask: value ^ wanted[at]})
		}
	}
}

// setting: the parameters of a code.
type setting struct {
	f    api.Family
	k, m int
}

func (s setting) String() string { return fmt.Sprintf("family %d, %d + %d", s.f, s.k, s.m) }

func (s setting) count() int { return s.k + s.m }

func small() []setting {
	var list []setting
	for _, p := range [][2]int{{1, 1}, {2, 1}, {1, 2}, {2, 2}, {3, 2}, {1, 3}} {
		for _, f := range []api.Family{api.Vander, api.Cauchy, api.Long} {
			list = append(list, setting{f, p[0], p[1]})
		}
	}
	return list
}

// manyOptions: every backend, with workers, stripes, caches and schedules of several kinds.
func (s setting) manyOptions() []api.Options {
	backends := []api.Backend{api.Sliced, api.Table, api.Nibble}
	if s.f == api.Long {
		backends = []api.Backend{api.Fast, api.Direct}
	}
	var list []api.Options
	for i, b := range backends {
		o := []api.Options{{Workers: 1, Stripe: 1 << 24, Cache: 1024}, {Workers: 3, Stripe: 5, Cache: 1}, {Workers: 2, Stripe: 3, Cache: 2, Scripted: true, Picks: []int{2, -1, 7, 1, 1, 0}}}[i]
		o.Family, o.Backend, o.Data, o.Parity = s.f, b, s.k, s.m
		list = append(list, o)
	}
	return list
}

func (s setting) options() api.Options { return s.manyOptions()[0] }

// dice: numbers that look like no pattern.
type dice uint64

func (d *dice) next(n int) int {
	*d = *d*6364136223846793005 + 1442695040888963407
	return int(uint64(*d)>>33) % n
}

func (d *dice) bytes(n int) []byte {
	list := make([]byte, n)
	for i := range list {
		list[i] = byte(d.next(256))
	}
	return list
}

// oneOf: an element of the list.
func oneOf[T any](d *dice, list ...T) T { return list[d.next(len(list))] }

// subsets: all lists of rising numbers below n, of at most so many.
func subsets(n, most int) [][]int {
	lists := [][]int{nil}
	for i := range n {
		for _, list := range lists {
			if len(list) < most {
				lists = append(lists, append(slices.Clone(list), i))
			}
		}
	}
	return lists
}

// countLists calls with each list of n numbers below base.
func countLists(n, base int, with func(list []int)) {
	list := make([]int, n)
	for {
		with(slices.Clone(list))
		at := 0
		for at < n && list[at] == base-1 {
			list[at] = 0
			at++
		}
		if at == n {
			return
		}
		list[at]++
	}
}
