package trie

import (
	"bytes"
	"fmt"
	"math"
	"slices"
	"strings"
	"testing"

	"cullet/api"
)

// What the tests hold a trie against: a plain list of keys and values. A key is a text there, one byte a number, so that the order of keys is that of texts, the beginnings are beginnings of texts, and the uses are counted.

type grid = [][]byte

// record: what is kept under one key, and the number of its last use.
type record struct {
	value grid
	used  int
}

type plain struct {
	limit, uses int
	records     map[string]record
}

func newPlain(limit int) *plain {
	return &plain{limit: limit, records: map[string]record{}}
}

// textOf: a key as a text.
func textOf(key []int) string {
	text := make([]byte, len(key))
	for i, number := range key {
		text[i] = byte(number)
	}
	return string(text)
}

// keyOf: a text as a key.
func keyOf(text string) []int {
	key := []int{}
	for _, number := range []byte(text) {
		key = append(key, int(number))
	}
	return key
}

func keysOf(texts []string) [][]int {
	var keys [][]int
	for _, text := range texts {
		keys = append(keys, keyOf(text))
	}
	return keys
}

func (p *plain) put(key []int, value grid) {
	text := textOf(key)
	if _, ok := p.records[text]; !ok && len(p.records) == p.limit {
		delete(p.records, p.byUse()[0])
	}
	p.uses++
	p.records[text] = record{clone(value), p.uses}
}

func (p *plain) get(key []int) (grid, bool) {
	text := textOf(key)
	r, ok := p.records[text]
	if ok {
		p.uses++
		p.records[text] = record{r.value, p.uses}
	}
	return r.value, ok
}

func (p *plain) drop(key []int) bool {
	_, ok := p.records[textOf(key)]
	delete(p.records, textOf(key))
	return ok
}

func (p *plain) texts() []string {
	var texts []string
	for text := range p.records {
		texts = append(texts, text)
	}
	return texts
}

// byUse: the eldest first.
func (p *plain) byUse() []string {
	texts := p.texts()
	slices.SortFunc(texts, func(a, b string) int { return p.records[a].used - p.records[b].used })
	return texts
}

func (p *plain) recent() [][]int {
	texts := p.byUse()
	slices.Reverse(texts)
	return keysOf(texts)
}

func (p *plain) under(prefix []int) [][]int {
	var texts []string
	for _, text := range p.texts() {
		if strings.HasPrefix(text, textOf(prefix)) {
			texts = append(texts, text)
		}
	}
	slices.Sort(texts)
	return keysOf(texts)
}

// nodes: the different beginnings, all of them laid into a list.
func (p *plain) nodes() int {
	var beginnings []string
	for text := range p.records {
		for i := range text {
			beginnings = append(beginnings, text[:i+1])
		}
	}
	slices.Sort(beginnings)
	return len(slices.Compact(beginnings))
}

// dice: numbers that look like no pattern.
type dice uint64

func (d *dice) next(n int) int {
	*d = *d*6364136223846793005 + 1442695040888963407
	return int(uint64(*d)>>33) % n
}

// key: some of these numbers, which rise; at most so many.
func (d *dice) key(numbers []int, most int) []int {
	count := d.next(min(len(numbers), most) + 1)
	key := []int{}
	for i, number := range numbers {
		if d.next(len(numbers)-i) < count-len(key) {
			key = append(key, number)
		}
	}
	return key
}

// value: none, or lists of unlike lengths, some of them empty, some nil.
func (d *dice) value() grid {
	value := make(grid, d.next(4))
	for i := range value {
		if d.next(5) > 0 {
			value[i] = make([]byte, d.next(5))
		}
		for c := range value[i] {
			value[i][c] = byte(d.next(256))
		}
	}
	return value
}

// clone: the lists in memory of their own.
func clone[E any](lists [][]E) [][]E {
	out := make([][]E, len(lists))
	for i, list := range lists {
		out[i] = append([]E{}, list...)
	}
	return out
}

func same(a, b grid) bool { return slices.EqualFunc(a, b, bytes.Equal) }

func sameKeys(a, b [][]int) bool { return slices.EqualFunc(a, b, slices.Equal) }

// noKeys: lists that are no key.
func noKeys() [][]int {
	all := allNumbers()
	late := func(last ...int) []int { return slices.Concat(all, last) }
	return [][]int{
		{1, 1}, {0, 0}, {255, 255}, {4, 1}, {1, 0}, {255, 0}, {0, 1, 0}, {0, 2, 1}, {0, 1, 1}, {3, 4, 5, 4},
		{-1}, {-255}, {-256}, {0, -1}, {-1, 0}, {-1, 255}, {1, 2, -1}, {-3, -2, -1},
		{256}, {257}, {511}, {512}, {0, 256}, {1, 256}, {1, 260}, {255, 256}, {256, 0}, {256, 257}, {1, 2, 256},
		{1 << 16}, {1 << 32}, {1<<32 + 1}, {1, 1<<32 + 4}, {-1 << 32},
		{math.MaxInt}, {math.MinInt}, {0, math.MaxInt}, {1, math.MinInt}, {math.MinInt, math.MaxInt}, {math.MaxInt, math.MinInt},
		late(255), late(256), late(0), late(-1), late(math.MaxInt), late(math.MinInt), late(all...),
		make([]int, 100000), slices.Concat(all[1:], []int{0}), slices.Concat(all[:255], []int{254}), slices.Concat(all[:255], []int{256}),
	}
}

// allNumbers: the longest key.
func allNumbers() []int {
	key := make([]int, 256)
	for i := range key {
		key[i] = i
	}
	return key
}

// few: a list as a message can tell it.
func few[E any](list []E) string {
	if len(list) > 12 {
		return fmt.Sprintf("%v.. (%d)", list[:12], len(list))
	}
	return fmt.Sprint(list)
}

// made: a trie of that limit, and the plain list that it is held against.
func made(t *testing.T, limit int) *pair {
	t.Helper()
	x, e := New(limit)
	if x == nil || e != api.OK {
		t.Fatalf("New(%d) = %v, %d", limit, x, e)
	}
	return &pair{t, x, newPlain(limit)}
}

// pair: a trie and a plain list, which are told the same, and must answer the same.
type pair struct {
	t *testing.T
	x *Trie
	p *plain
}

// with: keys are put, each with its own text as the value.
func (b *pair) with(keys ...[]int) *pair {
	b.t.Helper()
	for _, key := range keys {
		b.put(key, grid{[]byte(textOf(key)), nil})
	}
	return b
}

func (b *pair) put(key []int, value grid) {
	b.t.Helper()
	if e := b.x.Put(key, value); e != api.OK {
		b.t.Errorf("Put(%s) = %d", few(key), e)
	}
	b.p.put(key, value)
}

func (b *pair) get(key []int) {
	b.t.Helper()
	value, ok := b.x.Get(key)
	want, wantOK := b.p.get(key)
	b.held("Get", key, value, ok, want, wantOK)
}

func (b *pair) peek(key []int) {
	b.t.Helper()
	value, ok := b.x.Peek(key)
	want, wantOK := b.p.records[textOf(key)]
	b.held("Peek", key, value, ok, want.value, wantOK)
}

func (b *pair) held(call string, key []int, value grid, ok bool, want grid, wantOK bool) {
	b.t.Helper()
	if ok != wantOK || !same(value, want) {
		b.t.Errorf("%s(%s) = %v, %v, want %v, %v", call, few(key), value, ok, want, wantOK)
	}
}

func (b *pair) drop(key []int) {
	b.t.Helper()
	if ok, want := b.x.Drop(key), b.p.drop(key); ok != want {
		b.t.Errorf("Drop(%s) = %v, want %v", few(key), ok, want)
	}
}

// agree: does the trie tell just what the plain list does?
func (b *pair) agree() {
	b.t.Helper()
	b.agreeBriefly()
	want := b.p.under(nil)
	if have := walked(b.x); !sameKeys(have, want) {
		b.t.Errorf("All gives %s, want %s", few(have), few(want))
	}
	if have := b.x.Under(nil); !sameKeys(have, want) {
		b.t.Errorf("Under of nothing = %s, want %s", few(have), few(want))
	}
	for _, key := range want {
		b.peek(key)
	}
	if have := countNodes(b.x.root); have != b.x.Nodes() {
		b.t.Errorf("the tree has %d nodes, Nodes tells %d", have, b.x.Nodes())
	}
}

func (b *pair) agreeBriefly() {
	b.t.Helper()
	if have, want := b.x.Len(), len(b.p.records); have != want {
		b.t.Errorf("Len = %d, want %d", have, want)
	}
	if have, want := b.x.Nodes(), b.p.nodes(); have != want {
		b.t.Errorf("Nodes = %d, want %d", have, want)
	}
	if have, want := b.x.Recent(), b.p.recent(); !sameKeys(have, want) {
		b.t.Errorf("Recent = %s, want %s", few(have), few(want))
	}
}

// under: the keys below a prefix.
func (b *pair) under(prefix []int) {
	b.t.Helper()
	if have, want := b.x.Under(prefix), b.p.under(prefix); !sameKeys(have, want) {
		b.t.Errorf("Under(%s) = %s, want %s", few(prefix), few(have), few(want))
	}
}

func walked(x *Trie) [][]int { return gone(x.All()) }

// gone: what a walk gives.
func gone(walk func(func([]int) bool)) [][]int {
	var keys [][]int
	for key := range walk {
		keys = append(keys, key)
	}
	return keys
}

// countNodes: the nodes below this one.
func countNodes(n *node) int {
	count := 0
	for _, child := range n.children {
		count += 1 + countNodes(child)
	}
	return count
}
