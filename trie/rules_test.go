package trie

import (
	"bytes"
	"fmt"
	"slices"
	"sync"
	"testing"

	"cullet/api"
)

// P12.8, P1, P8 and the document's rules.

// spoil writes over all that a list holds, its spare room too.
func spoil[E any](list []E, with E) {
	list = list[:cap(list)]
	for i := range list {
		list[i] = with
	}
}

func spoilLists[E any](lists [][]E, with E) {
	for _, list := range lists {
		spoil(list, with)
	}
	spoil(lists, nil)
}

// grow puts more behind each list, into its spare room where there is some.
func grow[E any](lists [][]E, with ...E) {
	for _, list := range lists {
		_ = append(list, with...)
	}
	_ = append(lists, with)
}

// laid: a key and a value whose lists lie one behind another in one array, three other cells about each, so that the spare room of each is what lies behind it.
type laid struct {
	key, keys []int
	value     grid
	list      grid
	array     []byte
}

func lay(key []int, value grid) *laid {
	l := &laid{keys: slices.Concat([]int{5, 6, 7}, key, []int{8, 9, 10})}
	l.key = l.keys[3 : 3+len(key)]
	size := 3
	for _, row := range value {
		size += len(row) + 3
	}
	l.array = bytes.Repeat([]byte{0xEE}, size)
	at := 3
	for _, row := range value {
		copy(l.array[at:], row)
		l.list = append(l.list, l.array[at:at+len(row)])
		at += len(row) + 3
	}
	l.list = slices.Concat(l.list, grid{{1}, {2}, {3}, {4}})
	l.value = l.list[:len(value)]
	return l
}

// unchanged: is all of it what it was when laid out from this key and this value?
func (l *laid) unchanged(key []int, value grid) bool {
	was := lay(key, value)
	return slices.Equal(l.keys, was.keys) && bytes.Equal(l.array, was.array) && same(l.list, was.list) && sameMemory(l.list[:len(value)], l.value)
}

// sameMemory: are these the very same lists, not only alike?
func sameMemory(a, b grid) bool {
	return slices.EqualFunc(a, b, func(x, y []byte) bool {
		return len(x) == len(y) && cap(x) == cap(y) && (cap(x) == 0 || &x[:1][0] == &y[:1][0])
	})
}

func entries() map[string]grid {
	return map[string]grid{
		textOf([]int{}):        {{1, 2}, {3}},
		textOf([]int{1}):       {},
		textOf([]int{1, 4}):    {{}, {5}, nil, {6, 7, 8}},
		textOf([]int{0, 255}):  {{9}, {9}, {9}},
		textOf([]int{2, 3, 4}): {nil},
		textOf(allNumbers()):   {make([]byte, 300), {4}},
	}
}

// filled: a trie with these entries.
func filled(t *testing.T) *pair {
	b := made(t, 10)
	for _, text := range slices.Sorted(keysIn(entries())) {
		b.put(keyOf(text), entries()[text])
	}
	return b
}

func keysIn(m map[string]grid) func(func(string) bool) {
	return func(yield func(string) bool) {
		for text := range m {
			if !yield(text) {
				return
			}
		}
	}
}

// What is handed in is not changed, its spare room included.
func TestNothingHandedInIsChanged(t *testing.T) {
	calls := map[string]func(x *Trie, l *laid){
		"Put":   func(x *Trie, l *laid) { x.Put(l.key, l.value) },
		"Get":   func(x *Trie, l *laid) { x.Get(l.key) },
		"Peek":  func(x *Trie, l *laid) { x.Peek(l.key) },
		"Drop":  func(x *Trie, l *laid) { x.Drop(l.key) },
		"Under": func(x *Trie, l *laid) { x.Under(l.key) },
	}
	for name, call := range calls {
		for _, key := range append(noKeys(), []int{}, []int{1}, []int{1, 4}, []int{7, 8}, []int{0, 255}, allNumbers()) {
			for _, value := range []grid{nil, {nil}, {{1}, {}, {2, 3}}, {{4, 5, 6}, {7}}} {
				b := filled(t)
				l := lay(key, value)
				call(b.x, l)
				call(b.x, l)
				if !l.unchanged(key, value) {
					t.Errorf("%s of %s and %v has changed it, or what lies behind it", name, few(key), value)
				}
				if recent := b.x.Recent(); len(recent) > 0 {
					spoil(recent[0], -7)
				}
				if kept, ok := b.x.Peek(key); ok {
					spoilLists(kept, 7)
				}
				if !l.unchanged(key, value) {
					t.Errorf("%s of %s and %v: what was handed in is handed out", name, few(key), value)
				}
			}
		}
	}
}

// What is handed in is not kept: written over and grown later, it changes no answer.
func TestNothingHandedInIsKept(t *testing.T) {
	b := made(t, 10)
	var all []*laid
	for range 2 {
		for _, text := range slices.Sorted(keysIn(entries())) {
			l := lay(keyOf(text), entries()[text])
			b.put(l.key, l.value)
			all = append(all, l)
			grow(l.value, 1, 2, 3, 4)
			_ = append(l.key, 1, 2, 3)
			b.agree()
		}
	}
	for _, l := range all {
		b.get(slices.Clone(l.key))
		b.under(slices.Clone(l.key))
	}
	for _, l := range all {
		spoil(l.keys, 77)
		spoil(l.array, 77)
		spoil(l.list, nil)
	}
	b.agree()
	for _, text := range slices.Sorted(keysIn(entries())) {
		b.get(keyOf(text))
	}
	b.agree()
}

// Neither is a key that was asked for.
func TestAKeyThatIsAskedForIsNotKept(t *testing.T) {
	b := filled(t)
	key := []int{1, 4}
	b.get(key)
	b.peek(key)
	b.under(key)
	spoil(key, 3)
	b.agree()
	key = []int{1, 4}
	b.put(key, nil)
	spoil(key, 3)
	b.agree()
	key = []int{1, 4}
	b.drop(key)
	spoil(key, 3)
	b.agree()
}

// A value whose lists are one and the same, and a list that stands in several values.
func TestOneListTwice(t *testing.T) {
	list := []byte{1, 2, 3, 4}
	value := grid{list, list[:2], list[1:], list}
	b := made(t, 3)
	b.put([]int{1}, value)
	b.put([]int{1, 4}, value)
	b.put([]int{5}, value[1:3])
	b.agree()
	spoil(list, 9)
	b.agree()
	have, _ := b.x.Get([]int{1})
	b.p.get([]int{1})
	have[0][1] = 77
	if !same(have, grid{{1, 77, 3, 4}, {1, 2}, {2, 3, 4}, {1, 2, 3, 4}}) {
		t.Errorf("lists of one answer share memory: %v", have)
	}
	b.agree()
}

// asked: everything that a trie answers in lists. (The keys are asked for in the order in which they were put, so that their order of use stays.)
type asked struct {
	values []grid
	keys   [][][]int
}

func ask(x *Trie) asked {
	var a asked
	for _, text := range slices.Sorted(keysIn(entries())) {
		peeked, _ := x.Peek(keyOf(text))
		got, _ := x.Get(keyOf(text))
		a.values = append(a.values, peeked, got)
		a.keys = append(a.keys, x.Under(keyOf(text)))
	}
	a.keys = append(a.keys, x.Recent(), x.Under(nil), walked(x), gone(x.All()))
	return a
}

func (a asked) equal(other asked) bool {
	return slices.EqualFunc(a.values, other.values, same) && slices.EqualFunc(a.keys, other.keys, sameKeys)
}

// What is answered is new memory: written over and grown, it changes no other answer, and nothing that is kept.
func TestAnswersShareNothing(t *testing.T) {
	b := filled(t)
	first, second := ask(b.x), ask(b.x)
	want := ask(b.x)
	for _, value := range first.values {
		grow(value, 7, 7, 7, 7, 7)
	}
	for _, keys := range first.keys {
		grow(keys, -7, -7, -7, -7, -7)
	}
	if !first.equal(want) || !second.equal(want) || !ask(b.x).equal(want) {
		t.Error("an answer that is grown reaches another list")
	}
	for _, value := range first.values {
		spoilLists(value, 0xA5)
	}
	for _, keys := range first.keys {
		spoilLists(keys, -7)
	}
	if !second.equal(want) || !ask(b.x).equal(want) {
		t.Error("an answer that is written over changes another one")
	}
	b.agree()
	for _, key := range b.p.under(nil) {
		b.drop(key)
	}
	if !second.equal(want) {
		t.Error("an answer hangs on what is done to the trie later")
	}
}

// No two lists of all these answers share memory, their spare room included.
func TestListsOfAnswersAreApart(t *testing.T) {
	b := filled(t)
	first, second := ask(b.x), ask(b.x)
	var rows grid
	var keys [][]int
	for _, a := range []asked{first, second} {
		rows = append(rows, slices.Concat(a.values...)...)
		keys = append(keys, slices.Concat(a.keys...)...)
	}
	if len(rows) > 255 {
		t.Fatal("too many rows to be told apart")
	}
	for i, row := range rows {
		spoil(row, byte(i))
	}
	for i, row := range rows {
		for _, cell := range row[:cap(row)] {
			if cell != byte(i) {
				t.Fatalf("row %d shares memory with row %d", i, cell)
			}
		}
	}
	for i, key := range keys {
		spoil(key, i)
	}
	for i, key := range keys {
		for _, number := range key[:cap(key)] {
			if number != i {
				t.Fatalf("key %d shares memory with key %d", i, number)
			}
		}
	}
	b.agree()
}

// An elder value that was handed out stays as it was when another one takes its place.
func TestAnElderValueStays(t *testing.T) {
	b := made(t, 1)
	b.put([]int{1}, grid{{1, 2}, {3}})
	elder, _ := b.x.Peek([]int{1})
	b.put([]int{1}, grid{{7, 7}, {7}})
	if !same(elder, grid{{1, 2}, {3}}) {
		t.Errorf("the elder value is %v", elder)
	}
	b.put([]int{2}, grid{{8, 8}, {8}})
	if !same(elder, grid{{1, 2}, {3}}) {
		t.Errorf("the elder value is %v", elder)
	}
	b.agree()
}

// Nil and empty are one: keys, values, inner lists.
func TestNilAndEmpty(t *testing.T) {
	empty := make([]int, 0)
	a, b := made(t, 3), made(t, 3)
	a.put(nil, nil)
	b.put(empty, grid{})
	a.put([]int{1}, grid{nil, {}})
	b.put([]int{1}, grid{{}, nil})
	for _, key := range [][]int{nil, empty, {1}} {
		x, okX := a.x.Peek(key)
		y, okY := b.x.Peek(key)
		if !same(x, y) || !okX || !okY {
			t.Errorf("of %v: %v, %v and %v, %v", key, x, okX, y, okY)
		}
	}
	if !sameKeys(a.x.Under(nil), b.x.Under(empty)) || !sameKeys(a.x.Under(empty), b.x.Under(nil)) {
		t.Error("Under tells nil and empty apart")
	}
	if !a.x.Drop(empty) || !b.x.Drop(nil) || a.x.Drop(nil) || b.x.Drop(empty) {
		t.Error("Drop tells nil and empty apart")
	}
}

// ErrNil stands ahead of ErrKey.
func TestOrderOfErrors(t *testing.T) {
	var none *Trie
	x, _ := New(1)
	for _, c := range []struct {
		x    *Trie
		key  []int
		want api.Errno
	}{
		{none, []int{1, 0}, api.ErrNil}, {none, nil, api.ErrNil}, {none, []int{256}, api.ErrNil},
		{x, []int{1, 0}, api.ErrKey}, {x, []int{256}, api.ErrKey}, {x, nil, api.OK},
	} {
		if e := c.x.Put(c.key, grid{{1}}); e != c.want {
			t.Errorf("Put(%v) = %d, want %d", c.key, e, c.want)
		}
	}
}

// everything: all the calls, at all kinds of lists.
func everything(x *Trie) {
	for _, list := range append(noKeys(), nil, []int{}, []int{0}, []int{1, 4}, []int{1}, allNumbers(), []int{9}) {
		x.Put(list, grid{{1}, nil})
		x.Get(list)
		x.Peek(list)
		x.Len()
		x.Nodes()
		x.Recent()
		x.Under(list)
		for range x.All() {
			x.Put([]int{3, 4}, nil)
		}
		x.Drop(list)
		x.Put(list, nil)
	}
}

// Of a trie that New didn't make nothing is promised but that the calls end.
func TestCallsOfOtherTriesEnd(t *testing.T) {
	everything(nil)
	everything(&Trie{})
	for _, limit := range []int{1, 2, 3, 8} {
		b := made(t, limit).with([]int{1}, []int{1, 4}, []int{})
		first, second := *b.x, *b.x
		everything(&first)
		everything(b.x)
		everything(&second)
		everything(&first)
		third := second
		everything(&third)
		everything(&first)
		everything(b.x)
	}
}

// What a trie answers doesn't hang on other tries, nor on how their calls fall together.
func TestTriesInCompany(t *testing.T) {
	var group sync.WaitGroup
	for n := range 8 {
		b := made(t, 5)
		group.Go(func() {
			d := dice(200 + n)
			for range 300 {
				b.step(&d, world{limit: 5, numbers: []int{0, 1, 2, 3}, most: 3})
				b.agree()
			}
		})
	}
	group.Wait()
}

// One script twice, the same answers, though a map goes through its keys in any order.
func TestTheSameScriptTwice(t *testing.T) {
	tell := func() string {
		b, d := made(t, 50), dice(300)
		for range 300 {
			b.step(&d, world{limit: 50, numbers: allNumbers(), most: 2})
		}
		return fmt.Sprint(b.x.Recent(), b.x.Under(nil), walked(b.x), b.x.Len(), b.x.Nodes())
	}
	want := tell()
	for range 20 {
		if tell() != want {
			t.Fatal("a script that is run again answers otherwise")
		}
	}
}
