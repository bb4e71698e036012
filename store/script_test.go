package store

import (
	"bytes"
	"fmt"
	"math"
	"slices"
	"testing"

	"cullet/api"
	"cullet/frame"
)

// P26.1: scripts of all calls, against the model.

// anyStep: a call with arguments that are mostly right.
func (p *pair) anyStep(d *dice, names []string) step {
	x := step{
		kind: oneOf(d, put, put, put, get, patch, patch, remove, heal, heal, home, file, down, down, up, up, up, up, up, wipe, spoil, spoil),
		name: oneOf(d, names...),
		node: d.next(len(p.m.down)),
		at:   d.next(6),
		data: d.bytes(d.next(8)),
		mask: byte(d.next(256)),
	}
	if x.kind == put && d.next(3) == 0 {
		x.data = d.bytes(1 + d.next(200))
	}
	if kept := p.m.files[holding{x.node, x.name}]; x.kind == spoil && len(kept) > 0 {
		x.at = d.next(len(kept))
	}
	if d.next(30) == 0 {
		x.name = oneOf(d, "", string(make([]byte, 65)), "?")
	}
	if d.next(30) == 0 {
		x.node = oneOf(d, -1, len(p.m.down), math.MaxInt, math.MinInt)
	}
	if d.next(30) == 0 {
		x.at = oneOf(d, -1, 1000, math.MaxInt, math.MinInt)
	}
	return x
}

// Scripts of any steps; behind each all is as in the model.
func TestScripts(t *testing.T) {
	names := []string{"a", "b", "another name"}
	for i, s := range small() {
		for j, o := range s.manyOptions() {
			t.Run(fmt.Sprintf("%v, backend %d", s, o.Backend), func(t *testing.T) {
				t.Parallel()
				d := dice(100 + 10*i + j)
				for range 4 {
					p := newPair(t, o, 16+2*d.next(9), s.count()+d.next(3))
					for range 60 {
						x := p.anyStep(&d, names)
						p.do(t, x)
						p.compare(t, x.String(), names)
					}
				}
			})
		}
	}
}

// Every script of four steps about one name.
func TestEveryShortScript(t *testing.T) {
	steps := []step{{kind: put, data: []byte{1, 2, 3}}, {kind: patch, at: 1, data: []byte{9}}, {kind: remove}, {kind: heal}, {kind: down, node: 0}, {kind: up, node: 0}, {kind: down, node: 1}, {kind: up, node: 1}, {kind: wipe, node: 0}, {kind: spoil, node: 1, at: 45, mask: 8}}
	for _, s := range []setting{{api.Vander, 1, 1}, {api.Cauchy, 1, 2}} {
		for first := range steps {
			t.Run(fmt.Sprintf("%v, %v", s, steps[first]), func(t *testing.T) {
				t.Parallel()
				countLists(3, len(steps), func(list []int) {
					p := newPair(t, s.options(), 16, s.count())
					p.do(t, step{kind: put, name: "a", data: []byte{7}})
					for _, number := range append([]int{first}, list...) {
						x := steps[number]
						x.name = "a"
						p.do(t, x)
					}
					p.compare(t, fmt.Sprint(first, list), []string{"a"})
				})
			})
		}
	}
}

// settle: the file with its mark, its zeros and its sum as they ought to be; the sums of its blocks too, where that is wanted.
func settle(file []byte, blocks bool) []byte {
	if len(file) == 16 {
		copy(file, "TOMB")
		copy(file[12:], low(uint64(sumOf(file[:12])), 4))
		return file
	}
	copy(file, "CULL\x01")
	clear(file[40:44])
	copy(file[44:], low(uint64(sumOf(file[:44])), 4))
	length, block := fromLow(file[24:32]), fromLow(file[12:16])
	if !blocks || block == 0 {
		return file
	}
	at := 48
	for number := uint64(0); number*block < length; number++ {
		end := at + int(min(block, length-number*block))
		if end+4 > len(file) {
			break
		}
		copy(file[end:], low(uint64(sumOf(slices.Concat(file[:44], low(number, 4), file[at:end]))), 4))
		at = end + 4
	}
	return file
}

// forged: a file that says other things than the one that is kept there, under sums that are right; often it has the stamp of another one.
func (p *pair) forged(d *dice, h holding) []byte {
	file := bytes.Clone(p.m.files[h])
	stamp := oneOf(d, 0, p.m.stamp-1, p.m.stamp, p.m.stamp+1, math.MaxUint64)
	if list := p.m.readings(h.name); len(list) > 0 && d.next(2) == 0 {
		stamp = oneOf(d, list...).stamp
	}
	if len(file) == 16 {
		copy(file[4:], low(stamp, 8))
		return settle(file, true)
	}
	o := p.m.options
	switch d.next(8) {
	case 0:
		file[5] = byte(d.next(4))
	case 1:
		file[6] = byte(o.Data - 1 + d.next(3))
	case 2:
		file[8] = byte(o.Parity - 1 + d.next(3))
	case 3:
		file[10] = byte(d.next(p.m.count() + 1))
	case 4:
		copy(file[12:], low(uint64(oneOf(d, 1, 15, p.m.block, p.m.block+2, 2*p.m.block, 1<<20)), 4))
	case 5:
		size := oneOf(d, 1, 2, 10, 30, 1<<20, 1<<20+1, 1<<22)
		copy(file[16:], low(uint64(size), 8))
		copy(file[24:], low(uint64(lengthFor(o, size)), 8))
	}
	if d.next(3) > 0 {
		copy(file[32:], low(stamp, 8))
	}
	return settle(file, d.next(2) == 0)
}

// lengthFor: the length of the shards of an object of so many bytes.
func lengthFor(o api.Options, size int) int {
	length := (size + o.Data - 1) / o.Data
	if o.Family == api.Long {
		length += length % 2
	}
	return length
}

// Scripts whose spoilers forge: files with right sums say any stamps, tombs of them too, and what can't belong to the store.
func TestForgedFiles(t *testing.T) {
	names := []string{"a", "b"}
	for i, s := range small() {
		t.Run(s.String(), func(t *testing.T) {
			t.Parallel()
			d := dice(300 + i)
			for range 20 {
				p := newPair(t, s.options(), 16, s.count())
				for range 25 {
					h := holding{d.next(len(p.m.down)), oneOf(&d, names...)}
					if kept := p.m.files[h]; len(kept) > 0 && d.next(2) == 0 {
						p.forge(t, h.node, h.name, p.forged(&d, h))
						p.compare(t, fmt.Sprintf("forged: %v", h), names)
						continue
					}
					x := p.anyStep(&d, names)
					if x.kind == wipe || x.kind == spoil {
						continue
					}
					p.do(t, x)
					p.compare(t, x.String(), names)
				}
			}
		})
	}
}

// forgedCase: what a file of the first home node is made to say, and what Get and Heal then answer.
type forgedCase struct {
	what  string
	say   func(file []byte)
	reads api.Errno // what frame.Read answers for it
	get   answer
	heal  answer
}

// Each reason for which a file doesn't read well: it is passed over, and Heal lays it anew. One that reads well counts, whatever its stamp is.
func TestWhatReadsWell(t *testing.T) {
	data := []byte("thirty bytes are to be kept on")
	p := newPair(t, setting{api.Vander, 2, 1}.options(), 16, 4)
	p.do(t, step{kind: put, name: "other", data: data})
	p.do(t, step{kind: put, name: "a", data: data})
	nodes := p.m.home("a")
	object, healed := answer{data: data}, answer{numbers: nodes[:1]}
	tooFew := answer{fault: api.ErrTooFew}
	sized := func(size, length uint64) func(file []byte) {
		return func(file []byte) {
			copy(file[16:], low(size, 8))
			copy(file[24:], low(length, 8))
			copy(file[32:], low(99, 8))
		}
	}
	set := func(places ...int) func(file []byte) {
		return func(file []byte) {
			for i := 0; i < len(places); i += 2 {
				file[places[i]] = byte(places[i+1])
			}
		}
	}
	for _, c := range []forgedCase{
		{"as it is", set(), api.OK, object, answer{}},
		{"a greater stamp", set(32, 99), api.OK, tooFew, tooFew},
		{"the greatest stamp", func(file []byte) { copy(file[32:], low(math.MaxUint64, 8)) }, api.OK, tooFew, tooFew},
		{"a smaller stamp", set(32, 1), api.OK, object, healed},
		{"the stamp 0", set(32, 0), api.OK, object, healed},
		{"another family", set(32, 99, 5, 1), api.OK, object, healed},
		{"another k", set(32, 99, 6, 3, 16, 45), api.OK, object, healed},
		{"another m", set(32, 99, 8, 2), api.OK, object, healed},
		{"another index", set(32, 99, 10, 1), api.OK, object, healed},
		{"another block", set(32, 99, 12, 15), api.OK, object, healed},
		{"the greatest object", sized(1<<20, 1<<19), api.OK, tooFew, tooFew},
		{"a byte more than the greatest object", sized(1<<20+1, 1<<19+1), api.OK, object, healed},
		{"a file longer than its head says", sized(20, 10), api.ErrCut, object, healed},
		{"a head that can't be", set(32, 99, 24, 16), api.ErrHead, object, healed},
	} {
		q := p.twin(t)
		wanted := bytes.Clone(q.m.files[holding{nodes[0], "a"}])
		c.say(wanted)
		q.forge(t, nodes[0], "a", settle(wanted, true))
		if _, _, _, fault := frame.Read(wanted); fault != c.reads {
			t.Fatalf("%s: Read of the forged file: %d", c.what, fault)
		}
		q.compare(t, c.what, []string{"a", "other"})
		q.expect(t, step{kind: get, name: "a"}, c.get)
		q.expect(t, step{kind: heal, name: "a"}, c.heal)
		q.compare(t, c.what, []string{"a", "other"})
	}
}

// mixed: home nodes with these numbers keep tombs, the others shards; false, where no calls make it so.
func (p *pair) mixed(t *testing.T, tombs []int) bool {
	var buried, others []int
	for i, node := range p.m.home("a") {
		if slices.Contains(tombs, i) {
			buried = append(buried, node)
		} else {
			others = append(others, node)
		}
	}
	object, deleting := step{kind: put, name: "a", data: []byte("below")}, step{kind: remove, name: "a"}
	p.do(t, object)
	last, away := deleting, others
	if len(others) >= p.m.forWriting() {
		p.do(t, deleting)
		last, away = object, buried
	} else if len(buried) < p.m.forWriting() {
		return false
	}
	for _, node := range away {
		p.do(t, step{kind: down, node: node})
	}
	p.expect(t, last, answer{})
	for _, node := range away {
		p.do(t, step{kind: up, node: node})
	}
	return true
}

// Tombs among shards, whose stamps are one less, the same, or one more: where it is the same, the object is deleted; and the tomb's stamp is what Heal lays.
func TestTombsAmongShards(t *testing.T) {
	tried := 0
	for _, s := range []setting{{api.Vander, 2, 1}, {api.Cauchy, 3, 2}, {api.Vander, 2, 2}, {api.Long, 2, 1}} {
		for _, tombs := range subsets(s.count(), s.count()) {
			for by := -1; by <= 1; by++ {
				p := newPair(t, s.options(), 16, s.count())
				if !p.mixed(t, tombs) {
					continue
				}
				tried++
				for i, node := range p.m.home("a") {
					kept := bytes.Clone(p.m.files[holding{node, "a"}])
					if (len(kept) == 16) != slices.Contains(tombs, i) {
						t.Fatalf("%v: not the nodes %v have tombs", s, tombs)
					}
					if len(kept) == 16 {
						copy(kept[4:], low(uint64(7+by), 8))
					} else {
						copy(kept[32:], low(7, 8))
					}
					p.forge(t, node, "a", settle(kept, true))
				}
				what := fmt.Sprintf("%v, tombs %v, %d above the shards' stamp", s, tombs, by)
				p.compare(t, what, []string{"a"})
				q := p.twin(t)
				p.do(t, step{kind: remove, name: "a"})
				p.compare(t, what, []string{"a"})
				q.do(t, step{kind: heal, name: "a"})
				q.compare(t, what, []string{"a"})
			}
		}
	}
	if tried < 150 {
		t.Errorf("%d mixes were tried", tried)
	}
}
