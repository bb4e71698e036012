package trie

import (
	"iter"
	"slices"
	"testing"
)

// P12.7

func some() [][]int {
	return [][]int{{3}, {1, 2}, {}, {1}, {2, 200}, {1, 2, 255}, {0, 255}}
}

func sorted() [][]int {
	return [][]int{{}, {0, 255}, {1}, {1, 2}, {1, 2, 255}, {2, 200}, {3}}
}

// gives: does the walk give these keys?
func gives(t *testing.T, about string, walk iter.Seq[[]int], want [][]int) {
	t.Helper()
	if have := gone(walk); !sameKeys(have, want) {
		t.Errorf("%s: the walk gives %s, want %s", about, few(have), few(want))
	}
}

func TestAllGivesWhatIsKept(t *testing.T) {
	b := made(t, 20)
	gives(t, "an empty trie", b.x.All(), nil)
	b.with(some()...)
	gives(t, "seven keys", b.x.All(), sorted())
	b.agree()
	for _, key := range sorted() {
		b.drop(key)
		b.agree()
	}
	gives(t, "all dropped", b.x.All(), nil)
}

// What is done to the trie between the call and the walk is not seen.
func TestAllIsOfTheTimeOfTheCall(t *testing.T) {
	changes := map[string]func(b *pair){
		"Put":         func(b *pair) { b.with([]int{0}, []int{1, 3}, []int{255}) },
		"Put over":    func(b *pair) { b.put([]int{1}, nil) },
		"Put refused": func(b *pair) { b.x.Put([]int{2, 1}, nil) },
		"Get":         func(b *pair) { b.get([]int{3}) },
		"Drop": func(b *pair) {
			for _, key := range some() {
				b.drop(key)
			}
		},
		"Drop of some": func(b *pair) { b.drop([]int{}); b.drop([]int{1, 2}); b.drop([]int{3}) },
		"the eldest gone": func(b *pair) {
			for n := range 9 {
				b.with([]int{100, 110 + n})
			}
		},
		"Drop and Put": func(b *pair) {
			b.drop([]int{1})
			b.put([]int{1}, grid{{1}})
		},
	}
	for name, change := range changes {
		b := made(t, 8).with(some()...)
		walk := b.x.All()
		change(b)
		gives(t, name, walk, sorted())
		change(b)
		gives(t, name+", twice", walk, sorted())
		b.agree()

		b = made(t, 8).with(some()...)
		walk = b.x.All()
		var have [][]int
		for key := range walk {
			have = append(have, key)
			change(b)
			b.agree()
		}
		if !sameKeys(have, sorted()) {
			t.Errorf("%s within the walk: it gives %v", name, have)
		}
		gives(t, name+" within a walk ahead", walk, sorted())
	}
}

// Of an empty trie nothing is given, whatever is put later.
func TestAllOfAnEmptyTrieStaysSo(t *testing.T) {
	b := made(t, 8)
	walk := b.x.All()
	b.with(some()...)
	gives(t, "keys put behind the call", walk, nil)
	gives(t, "a new call", b.x.All(), sorted())
}

// A walk that ends early has no more keys handed out, and the next one begins anew.
func TestWalksThatEndEarly(t *testing.T) {
	b := made(t, 8).with(some()...)
	walk := b.x.All()
	for stop := range len(sorted()) + 1 {
		var have [][]int
		walk(func(key []int) bool {
			have = append(have, key)
			return len(have) < stop
		})
		if want := sorted()[:max(stop, 1)]; !sameKeys(have, want) {
			t.Errorf("a walk to be ended behind %d keys gives %v, want %v", stop, have, want)
		}
		gives(t, "behind a walk that ended early", walk, sorted())
	}
	b.agree()
}

// Walks of one call and of several, within one another.
func TestWalksWithinOneAnother(t *testing.T) {
	b := made(t, 8).with(some()...)
	walk, other := b.x.All(), b.x.All()
	var have [][]int
	for key := range walk {
		have = append(have, key)
		gives(t, "a walk within itself", walk, sorted())
		gives(t, "a walk of another call", other, sorted())
		gives(t, "a walk of a new call", b.x.All(), sorted())
		for inner := range walk {
			if len(inner) > 1 {
				break
			}
			for range walk {
				break
			}
		}
	}
	if !sameKeys(have, sorted()) {
		t.Errorf("a walk with others within it gives %v", have)
	}
}

// Two walks that go on by turns.
func TestWalksByTurns(t *testing.T) {
	b := made(t, 8).with(some()...)
	walk := b.x.All()
	next, stop := iter.Pull(walk)
	defer stop()
	late, stopLate := iter.Pull(walk)
	defer stopLate()
	want := sorted()
	next()
	for i := range want {
		key, ok := late()
		if !ok || !slices.Equal(key, want[i]) {
			t.Errorf("the later walk, key %d: %v, %v", i, key, ok)
		}
		b.drop(key)
		if key, ok = next(); ok != (i+1 < len(want)) || ok && !slices.Equal(key, want[i+1]) {
			t.Errorf("the earlier walk, key %d: %v, %v", i+1, key, ok)
		}
	}
	if _, ok := late(); ok {
		t.Error("a walk doesn't end")
	}
}

// Each key that is handed out is new memory, in each walk.
func TestWalksHandOutNewMemory(t *testing.T) {
	b := made(t, 8).with(some()...)
	walk := b.x.All()
	var kept [][]int
	for range 3 {
		for key := range walk {
			kept = append(kept, key)
			for inner := range walk {
				spoil(inner, -7)
			}
			for inner := range b.x.All() {
				spoil(inner, -7)
			}
		}
	}
	for i, key := range kept {
		if want := sorted()[i%len(sorted())]; !slices.Equal(key, want) {
			t.Errorf("key %d of three walks is %v, want %v", i, key, want)
		}
	}
	for i, key := range kept {
		spoil(key, i)
	}
	for i, key := range kept {
		for _, number := range key[:cap(key)] {
			if number != i {
				t.Fatalf("key %d of three walks shares memory with key %d", i, number)
			}
		}
	}
	gives(t, "behind keys that were written over", walk, sorted())
	b.agree()
}

// A walk of all 1024 keys, the longest one among them.
func TestAFullWalk(t *testing.T) {
	b, d := made(t, 1024).with(allNumbers()), dice(50)
	for b.x.Len() < 1024 {
		b.with(d.key(allNumbers(), 3))
	}
	want := b.p.under(nil)
	walk := b.x.All()
	for _, key := range want {
		b.drop(key)
	}
	gives(t, "1024 keys", walk, want)
	if !slices.IsSortedFunc(want, slices.Compare) || len(want) != 1024 {
		t.Errorf("%d keys, or out of their order", len(want))
	}
	b.agree()
}
