package trie

import (
	"math"
	"testing"

	"cullet/api"
)

// Scripts of calls, against the plain list: P12.2 to P12.7.

// world: what a long script's keys are made of.
type world struct {
	limit   int
	numbers []int
	most    int // numbers a key
	steps   int
	every   int // how many steps between two looks at all that is kept
}

func worlds() []world {
	all := allNumbers()
	return []world{
		{1, []int{0, 255}, 2, 500, 1},
		{1, []int{0, 1, 2}, 3, 1000, 1},
		{2, []int{0, 1, 2}, 3, 2000, 1},
		{3, []int{0, 7, 255}, 2, 2000, 1},
		{3, []int{1, 2, 3, 4}, 4, 2000, 1},
		{8, []int{1, 2, 3, 4}, 4, 3000, 1},
		{16, []int{0, 3, 4, 200, 254, 255}, 4, 3000, 3},
		{40, []int{0, 1, 2, 3, 4, 5}, 6, 3000, 5},
		{64, []int{0, 1, 2, 3, 4, 5}, 6, 3000, 5},
		{100, all, 2, 1500, 10},
		{20, all, 256, 800, 20},
		{500, []int{0, 1, 2, 5, 6, 9, 30, 77, 100, 101, 102, 255}, 12, 5000, 200},
		{1024, all, 5, 8000, 1000},
	}
}

func TestLongScripts(t *testing.T) {
	for i, w := range worlds() {
		d := dice(100 + i)
		b := made(t, w.limit)
		for step := range w.steps {
			b.step(&d, w)
			if step%w.every == 0 {
				b.agree()
			} else if w.limit < 500 {
				b.agreeBriefly()
			}
			if t.Failed() {
				t.Fatalf("limit %d, numbers %s: step %d", w.limit, few(w.numbers), step)
			}
		}
		b.agree()
		if have := b.x.Len(); have < w.limit/2 {
			t.Errorf("limit %d, numbers %s: the script keeps %d at its end", w.limit, few(w.numbers), have)
		}
	}
}

// step: one call that the dice choose.
func (b *pair) step(d *dice, w world) {
	b.t.Helper()
	key := d.key(w.numbers, w.most)
	if d.next(3) == 0 && len(b.p.records) > 0 {
		kept := b.p.under(nil)
		key = kept[d.next(len(kept))]
	}
	switch d.next(12) {
	case 0, 1, 2, 3, 4, 5:
		b.put(key, d.value())
	case 6, 7:
		b.get(key)
	case 8:
		b.peek(key)
	case 9:
		b.drop(key)
	case 10:
		b.under(key)
	case 11:
		b.refused(d.broken(key))
	}
}

// broken: a list that is no key, much like this one.
func (d *dice) broken(key []int) []int {
	list := append([]int{}, key...)
	wrong := []int{-1, 256, math.MinInt, math.MaxInt, 512, -256}[d.next(6)]
	if len(list) == 0 {
		return []int{wrong}
	}
	at := d.next(len(list))
	switch d.next(3) {
	case 0:
		list[at] = wrong
	case 1:
		list = append(list, list[at])
	case 2:
		list = append(list[:at], append([]int{list[at], list[at]}, list[at+1:]...)...)
	}
	return list
}

func (b *pair) refused(list []int) {
	b.t.Helper()
	if e := b.x.Put(list, grid{{66}}); e != api.ErrKey {
		b.t.Errorf("Put(%s) = %d, want ErrKey", few(list), e)
	}
	for _, ask := range []func([]int) (grid, bool){b.x.Get, b.x.Peek} {
		if value, ok := ask(list); ok || len(value) != 0 {
			b.t.Errorf("of %s: %v, %v", few(list), value, ok)
		}
	}
	if b.x.Drop(list) || len(b.x.Under(list)) != 0 {
		b.t.Errorf("something is kept under %s", few(list))
	}
}

// Every script of four calls over four keys, at each of three limits.
func TestEveryShortScript(t *testing.T) {
	keys := [][]int{{}, {1}, {1, 2}, {2}}
	const kinds = 3
	calls := kinds * len(keys)
	for _, limit := range []int{1, 2, 3} {
		for script := range calls * calls * calls * calls {
			b := made(t, limit)
			for rest, n := script, 0; n < 4; rest, n = rest/calls, n+1 {
				key := keys[rest%calls/kinds]
				switch rest % kinds {
				case 0:
					b.put(key, grid{{byte(n)}})
				case 1:
					b.get(key)
				case 2:
					b.drop(key)
				}
			}
			b.agree()
			if t.Failed() {
				t.Fatalf("limit %d, script %d", limit, script)
			}
		}
	}
}

// The calls that only look use nothing: behind them the keys go in the order in which they would have gone.
func TestLookingUsesNothing(t *testing.T) {
	keys := [][]int{{}, {1}, {1, 4}, {2, 200}, {3}}
	looks := map[string]func(x *Trie){
		"Peek":  func(x *Trie) { x.Peek(keys[0]); x.Peek(keys[2]); x.Peek([]int{9}); x.Peek([]int{4, 1}) },
		"Get":   func(x *Trie) { x.Get([]int{9}); x.Get([]int{4, 1}); x.Get([]int{1, 4, 5}); x.Get([]int{2}) },
		"Put":   func(x *Trie) { x.Put([]int{4, 1}, nil); x.Put([]int{1, 256}, nil) },
		"Drop":  func(x *Trie) { x.Drop([]int{9}); x.Drop([]int{2}); x.Drop([]int{4, 1}) },
		"Len":   func(x *Trie) { x.Len() },
		"Nodes": func(x *Trie) { x.Nodes() },
		"Recent": func(x *Trie) {
			x.Recent()
			x.Recent()
		},
		"Under": func(x *Trie) { x.Under(nil); x.Under(keys[1]); x.Under([]int{2}); x.Under([]int{7}) },
		"All": func(x *Trie) {
			for range x.All() {
				gone(x.All())
			}
			for range x.All() {
				break
			}
		},
	}
	for name, look := range looks {
		b := made(t, len(keys)).with(keys...)
		b.get(keys[1])
		look(b.x)
		b.agree()
		for n := range keys {
			b.put([]int{50, 60 + n}, nil)
			look(b.x)
			b.agree()
		}
		if t.Failed() {
			t.Fatalf("behind %s", name)
		}
	}
}

// A drop uses none of the others.
func TestDropUsesNothing(t *testing.T) {
	keys := [][]int{{1}, {1, 4}, {2}, {1, 4, 9}, {}}
	for i, key := range keys {
		b := made(t, len(keys)).with(keys...)
		b.get(keys[(i+2)%len(keys)])
		b.drop(key)
		b.agree()
		for n := range 6 {
			b.put([]int{50 + n}, nil)
			b.agree()
		}
	}
}
