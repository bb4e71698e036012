package store

import (
	"bytes"
	"fmt"
	"math"
	"slices"
	"strings"
	"testing"

	"cullet/api"
)

// The calls one by one: the chapter's examples, the edges that it names, and all errors in their order.

func example(t *testing.T) *pair {
	t.Helper()
	return newPair(t, api.Options{Family: api.Vander, Backend: api.Table, Data: 2, Parity: 1, Workers: 1, Stripe: 64, Cache: 4}, 16, 4)
}

// expect makes the step on both; the answer must be this one.
func (p *pair) expect(t *testing.T, x step, want answer) {
	t.Helper()
	if got := p.do(t, x); !got.equals(want) {
		t.Errorf("%v: %v, it is to be %v", x, got, want)
	}
}

func TestExamples(t *testing.T) {
	const a = "a"
	if sum := sumOf([]byte(a)); sum != 0xe8b7be43 {
		t.Fatalf("the tests' own sum of a: %d", sum)
	}
	p := example(t)
	p.expect(t, step{kind: home, name: a}, answer{numbers: []int{3, 0, 1}})
	p.expect(t, step{kind: put, name: a, data: []byte{7}}, answer{})
	p.expect(t, step{kind: get, name: a}, answer{data: []byte{7}})
	p.expect(t, step{kind: file, name: a, node: 2}, answer{fault: api.ErrNone})
	p.expect(t, step{kind: down, node: 3}, answer{})
	p.expect(t, step{kind: get, name: a}, answer{data: []byte{7}})
	p.expect(t, step{kind: down, node: 0}, answer{})
	p.expect(t, step{kind: get, name: a}, answer{fault: api.ErrQuorum})
	p.expect(t, step{kind: put, name: a, data: []byte{8}}, answer{fault: api.ErrQuorum})

	p = example(t)
	p.do(t, step{kind: put, name: a, data: []byte{7}})
	p.do(t, step{kind: down, node: 3})
	p.expect(t, step{kind: put, name: a, data: []byte{8}}, answer{})
	p.do(t, step{kind: up, node: 3})
	p.do(t, step{kind: down, node: 0})
	p.expect(t, step{kind: get, name: a}, answer{fault: api.ErrTooFew})
	p.do(t, step{kind: up, node: 0})
	p.expect(t, step{kind: get, name: a}, answer{data: []byte{8}})
	p.expect(t, step{kind: heal, name: a}, answer{numbers: []int{3}})

	p.do(t, step{kind: down, node: 3})
	p.expect(t, step{kind: remove, name: a}, answer{})
	p.do(t, step{kind: up, node: 3})
	p.expect(t, step{kind: get, name: a}, answer{fault: api.ErrNone})
	p.expect(t, step{kind: heal, name: a}, answer{numbers: []int{3}})

	p = example(t)
	p.do(t, step{kind: put, name: a, data: []byte{7}})
	p.expect(t, step{kind: spoil, name: a, node: 0, at: 5, mask: 1}, answer{})
	p.expect(t, step{kind: get, name: a}, answer{data: []byte{7}})
	p.expect(t, step{kind: heal, name: a}, answer{numbers: []int{0}})
}

// The tomb of the third writing, number by number.
func TestTomb(t *testing.T) {
	p := example(t)
	p.do(t, step{kind: put, name: "a", data: []byte{7}})
	p.do(t, step{kind: put, name: "b", data: []byte{7}})
	p.do(t, step{kind: remove, name: "a"})
	want := []byte{84, 79, 77, 66, 3, 0, 0, 0, 0, 0, 0, 0}
	want = append(want, low(uint64(sumOf(want)), 4)...)
	for _, node := range []int{3, 0, 1} {
		p.expect(t, step{kind: file, name: "a", node: node}, answer{data: want})
	}
	p.expect(t, step{kind: file, name: "a", node: 2}, answer{fault: api.ErrNone})
}

// The home of many names, in stores of each number of nodes.
func TestHome(t *testing.T) {
	d := dice(1)
	for _, s := range []setting{{api.Vander, 1, 1}, {api.Cauchy, 3, 2}, {api.Long, 40, 20}} {
		for nodes := s.count(); nodes <= 64; nodes++ {
			p := newPair(t, s.options(), 16, nodes)
			for length := 1; length <= 64; length++ {
				name := string(d.bytes(length))
				got := p.do(t, step{kind: home, name: name})
				for i, node := range got.numbers {
					if len(got.numbers) != s.count() || node != (int(sumOf([]byte(name))%uint32(nodes))+i)%nodes {
						t.Fatalf("%v, %d nodes: Home(%q): %v", s, nodes, name, got)
					}
				}
			}
		}
	}
}

// situation is a way in which a name may stand. Of its home nodes the first ones are down.
type situation struct {
	what string
	make func(t *testing.T, p *pair, name string)
}

func situations() []situation {
	data := []byte{1, 2, 3, 4, 5}
	write := func(t *testing.T, p *pair, name string) { p.do(t, step{kind: put, name: name, data: data}) }
	return []situation{
		{"nothing", func(t *testing.T, p *pair, name string) {}},
		{"an object", write},
		{"a deleted one", func(t *testing.T, p *pair, name string) {
			write(t, p, name)
			p.do(t, step{kind: remove, name: name})
		}},
		{"an object of which too little is left", func(t *testing.T, p *pair, name string) {
			write(t, p, name)
			for _, node := range p.m.home(name)[p.m.options.Data-1:] {
				p.do(t, step{kind: spoil, name: name, node: node, at: 48, mask: 1})
			}
		}},
		{"junk alone", func(t *testing.T, p *pair, name string) {
			write(t, p, name)
			for _, node := range p.m.home(name) {
				p.do(t, step{kind: spoil, name: name, node: node, at: node, mask: 1})
			}
		}},
	}
}

// callsAbout: each call with each mix of right and wrong arguments.
func callsAbout(p *pair, good string) []step {
	tooMuch := make([]byte, 1<<20+1)
	var list []step
	for _, name := range []string{good, "", strings.Repeat("x", 65), good[:1] + "?"} {
		for kind := put; kind <= spoil; kind++ {
			for _, node := range []int{math.MinInt, -1, p.m.home(good)[0], p.m.home(good)[p.m.count()-1], len(p.m.down), math.MaxInt} {
				for _, at := range []int{math.MinInt, -1, 0, 2, 3, 5, 6, 15, 16, 48, 69, 70, 1 << 20, math.MaxInt} {
					if kind != spoil && kind != patch && at > 0 || kind < file && node > 0 {
						continue
					}
					for _, data := range [][]byte{nil, {}, {9, 9, 9}, {1, 2, 3, 4, 5, 6}, tooMuch} {
						if kind == put || kind == patch || len(data) == 3 {
							list = append(list, step{kind: kind, name: name, node: node, at: at, data: data, mask: 129})
						}
					}
				}
			}
		}
	}
	return list
}

// Each call in each situation, with each number of home nodes down: the first error of its list is the answer, and beside an error nothing is changed.
func TestErrorsInTheirOrder(t *testing.T) {
	name := "home"
	for _, s := range []setting{{api.Vander, 2, 1}, {api.Cauchy, 1, 2}, {api.Vander, 2, 2}, {api.Long, 2, 1}} {
		for _, x := range situations() {
			for less := range s.count() + 1 {
				t.Run(fmt.Sprintf("%v, %s, %d down", s, x.what, less), func(t *testing.T) {
					t.Parallel()
					p := newPair(t, s.options(), 16, s.count()+1)
					x.make(t, p, name)
					for _, node := range p.m.home(name)[:less] {
						p.do(t, step{kind: down, node: node})
					}
					stamp := p.m.stamp
					for _, x := range callsAbout(p, name) {
						q := p.twin(t)
						if got := q.do(t, x); got.fault != api.OK && q.m.stamp != stamp {
							t.Fatalf("%v: a stamp was taken", x)
						}
						if !q.isLike(p) {
							q.compare(t, x.String(), []string{name})
						}
						if q.s.writings != q.m.stamp {
							t.Fatalf("%v: %d stamps, %d in the model", x, q.s.writings, q.m.stamp)
						}
					}
				})
			}
		}
	}
}

// twin: the same store and model once more, in memory of their own.
func (p *pair) twin(t *testing.T) *pair {
	t.Helper()
	q := newPair(t, p.m.options, p.m.block, len(p.m.down))
	q.s.writings = p.s.writings
	q.m.stamp = p.m.stamp
	copy(q.m.down, p.m.down)
	for h, file := range p.m.files {
		q.m.files[h] = bytes.Clone(file)
	}
	for i, n := range p.s.nodes {
		q.s.nodes[i].down = n.down
		for name, file := range n.files {
			q.s.nodes[i].files[name] = bytes.Clone(file)
		}
	}
	return q
}

// isLike: do both stores keep the same, and are the same nodes up?
func (p *pair) isLike(q *pair) bool {
	for i, n := range p.s.nodes {
		o := q.s.nodes[i]
		if n.down != o.down || len(n.files) != len(o.files) {
			return false
		}
		for name, file := range n.files {
			if other, there := o.files[name]; !there || !bytes.Equal(file, other) {
				return false
			}
		}
	}
	return true
}

// Names of all lengths and of any bytes: each is a name of its own.
func TestAnyNames(t *testing.T) {
	d := dice(2)
	p := example(t)
	names := []string{"\x00", "\xff", " ", "\n", "a", "a\x00", "a ", "A", "ä", strings.Repeat("x", 64), strings.Repeat("x", 63), strings.Repeat("\x00", 64)}
	for length := 1; length <= 64; length++ {
		names = append(names, string(d.bytes(length)))
	}
	for i, name := range names {
		p.expect(t, step{kind: put, name: name, data: []byte(fmt.Sprint(i))}, answer{})
	}
	for i, name := range names {
		p.expect(t, step{kind: get, name: name}, answer{data: []byte(fmt.Sprint(i))})
	}
	p.compare(t, "many names", names)
	for _, name := range []string{"", strings.Repeat("x", 65), strings.Repeat("x", 100000)} {
		for kind := put; kind <= file; kind++ {
			p.expect(t, step{kind: kind, name: name, data: []byte{1}}, answer{fault: api.ErrName})
		}
		p.expect(t, step{kind: spoil, name: name}, answer{fault: api.ErrName})
	}
}

// The greatest objects, in the greatest and the least stores.
func TestGreatestObjects(t *testing.T) {
	d := dice(3)
	data := d.bytes(1 << 20)
	for _, c := range []struct {
		setting
		block int
	}{
		{setting{api.Vander, 1, 1}, 16},
		{setting{api.Vander, 1, 1}, 1 << 20},
		{setting{api.Vander, 1, 63}, 16},
		{setting{api.Cauchy, 60, 4}, 1000},
		{setting{api.Long, 1, 20}, 16},
		{setting{api.Long, 33, 31}, 1 << 20},
	} {
		t.Run(fmt.Sprintf("%v, block %d", c.setting, c.block), func(t *testing.T) {
			s := c.setting
			t.Parallel()
			x, fault := New(s.options(), c.block, s.count())
			if fault != api.OK {
				t.Fatalf("New: %d", fault)
			}
			if fault := x.Put("a", make([]byte, 1<<20+1)); fault != api.ErrSize {
				t.Errorf("Put of a byte too many: %d", fault)
			}
			if fault := x.Put("a", data[:1]); fault != api.OK {
				t.Errorf("Put of a byte: %d", fault)
			}
			if fault := x.Put("a", data); fault != api.OK {
				t.Fatalf("Put: %d", fault)
			}
			for node := range s.m {
				x.Wipe(node)
			}
			if got, fault := x.Get("a"); fault != api.OK || !bytes.Equal(got, data) {
				t.Errorf("Get: %d, or other bytes", fault)
			}
			if fault := x.Patch("a", 1<<20-1, []byte{1, 2}); fault != api.ErrPlace {
				t.Errorf("Patch behind the end: %d", fault)
			}
			if healed, fault := x.Heal("a"); fault != api.OK || len(healed) != s.m {
				t.Errorf("Heal: %v, %d", healed, fault)
			}
			if healed, fault := x.Heal("a"); fault != api.OK || len(healed) != 0 {
				t.Errorf("Heal again: %v, %d", healed, fault)
			}
		})
	}
}

// Patches at every place, of every length; and the empty one takes no stamp.
func TestPatch(t *testing.T) {
	d := dice(4)
	for _, s := range small() {
		p := newPair(t, s.options(), 16, s.count())
		whole := d.bytes(9)
		p.do(t, step{kind: put, name: "a", data: whole})
		for at := -1; at <= len(whole)+1; at++ {
			for length := 0; length <= len(whole)+1; length++ {
				data := d.bytes(length)
				was := p.s.writings
				got := p.do(t, step{kind: patch, name: "a", at: at, data: data})
				if at < 0 || at+length > len(whole) {
					if got.fault != api.ErrPlace || p.s.writings != was {
						t.Fatalf("Patch at %d of %d bytes: %v, %d stamps", at, length, got, p.s.writings-was)
					}
					continue
				}
				copy(whole[at:], data)
				if got.fault != api.OK || p.s.writings != was+uint64(min(length, 1)) {
					t.Fatalf("Patch at %d of %d bytes: %v, %d stamps", at, length, got, p.s.writings-was)
				}
				p.expect(t, step{kind: get, name: "a"}, answer{data: whole})
			}
		}
		p.compare(t, "patches", []string{"a"})
	}
}

// A node that is down keeps what it kept, be it written, deleted or healed meanwhile; but it can be wiped and spoilt.
func TestDownNodes(t *testing.T) {
	for _, s := range []setting{{api.Vander, 2, 1}, {api.Cauchy, 3, 2}, {api.Long, 2, 1}} {
		p := newPair(t, s.options(), 16, s.count()+2)
		p.do(t, step{kind: put, name: "a", data: []byte("the first")})
		first := p.m.home("a")[0]
		was := p.do(t, step{kind: file, name: "a", node: first})
		p.do(t, step{kind: down, node: first})
		for _, x := range []step{{kind: put, data: []byte("the second")}, {kind: patch, at: 2, data: []byte("!")}, {kind: heal}, {kind: remove}, {kind: heal}, {kind: put, data: []byte("the third")}, {kind: heal}} {
			x.name = "a"
			p.do(t, x)
			p.expect(t, step{kind: file, name: "a", node: first}, was)
			p.compare(t, x.String(), []string{"a"})
		}
		p.expect(t, step{kind: spoil, name: "a", node: first, at: 7, mask: 3}, answer{})
		was.data[7] ^= 3
		p.expect(t, step{kind: file, name: "a", node: first}, was)
		p.expect(t, step{kind: wipe, node: first}, answer{})
		p.expect(t, step{kind: file, name: "a", node: first}, answer{fault: api.ErrNone})
		if !p.s.nodes[first].down {
			t.Error("a wiped node has come up")
		}
		p.expect(t, step{kind: up, node: first}, answer{})
		p.expect(t, step{kind: heal, name: "a"}, answer{numbers: []int{first}})
		p.compare(t, "all is up", []string{"a"})
	}
}

// Each mask at each place: the file's byte alone is another; a mask of 0 changes nothing.
func TestSpoil(t *testing.T) {
	p := example(t)
	p.do(t, step{kind: put, name: "a", data: []byte("spoil")})
	p.do(t, step{kind: put, name: "b", data: []byte("spare")})
	was := p.do(t, step{kind: file, name: "a", node: 0}).data
	for at := range was {
		for _, mask := range []byte{0, 1, 128, 255} {
			p.do(t, step{kind: spoil, name: "a", node: 0, at: at, mask: mask})
			want := bytes.Clone(was)
			want[at] ^= mask
			p.expect(t, step{kind: file, name: "a", node: 0}, answer{data: want})
			p.compare(t, "spoilt", []string{"a", "b"})
			p.do(t, step{kind: spoil, name: "a", node: 0, at: at, mask: mask})
		}
	}
	p.expect(t, step{kind: spoil, name: "a", node: 0, at: len(was), mask: 1}, answer{fault: api.ErrPlace})
	p.expect(t, step{kind: heal, name: "a"}, answer{})
}

// Names come in the order of their bytes, each once, and those alone that are objects with enough nodes up.
func TestNames(t *testing.T) {
	p := example(t)
	names := []string{"b", "ab", "a", "aa", "\xff", "\x00", "B", "a\x00", "ä", "c", "d"}
	for _, name := range names {
		p.do(t, step{kind: put, name: name, data: []byte{1}})
	}
	p.do(t, step{kind: remove, name: "c"})
	for _, node := range p.m.home("d") {
		p.do(t, step{kind: spoil, name: "d", node: node, at: 47, mask: 1})
	}
	want := []string{"\x00", "B", "a", "a\x00", "aa", "ab", "b", "ä", "\xff"}
	if got := slices.Collect(p.s.Names()); !slices.Equal(got, want) {
		t.Errorf("Names: %q, it is to be %q", got, want)
	}
	// An object that can't be opened has its name here all the same.
	for _, node := range p.m.home("b")[:2] {
		p.do(t, step{kind: spoil, name: "b", node: node, at: 48, mask: 1})
	}
	p.expect(t, step{kind: get, name: "b"}, answer{fault: api.ErrTooFew})
	if got := slices.Collect(p.s.Names()); !slices.Equal(got, want) {
		t.Errorf("Names: %q, it is to be %q", got, want)
	}
	for _, nodes := range subsets(4, 4) {
		q := p.twin(t)
		for _, node := range nodes {
			q.do(t, step{kind: down, node: node})
		}
		q.compare(t, fmt.Sprintf("down: %v", nodes), names)
		for _, node := range nodes {
			q.do(t, step{kind: wipe, node: node})
			q.compare(t, fmt.Sprintf("down: %v, wiped: %d", nodes, node), names)
		}
	}
}
