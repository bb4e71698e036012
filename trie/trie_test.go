package trie

import (
	"fmt"
	"math"
	"slices"
	"testing"

	"cullet/api"
)

// P12.1

func TestNewRefusesLimits(t *testing.T) {
	for _, limit := range []int{math.MinInt, math.MinInt + 1, -1024, -2, -1, 0, 1025, 1026, 2048, 1<<32 + 1, math.MaxInt - 1, math.MaxInt} {
		if x, e := New(limit); x != nil || e != api.ErrRange {
			t.Errorf("New(%d) = %v, %d, want nil and ErrRange", limit, x, e)
		}
	}
}

func TestNewKeepsNothing(t *testing.T) {
	for _, limit := range []int{1, 2, 3, 16, 1023, 1024} {
		b := made(t, limit)
		b.agree()
		for _, key := range [][]int{nil, {}, {0}, {255}, {1, 4}, allNumbers()} {
			b.get(key)
			b.peek(key)
			b.drop(key)
			b.under(key)
		}
		b.agree()
	}
}

// Two tries have nothing in common.
func TestNewIsAnotherOne(t *testing.T) {
	a, b := made(t, 2), made(t, 2)
	if a.x == b.x {
		t.Fatal("New answers one trie twice")
	}
	a.with([]int{1}, []int{1, 2})
	b.agree()
	b.with([]int{3}).put([]int{1}, grid{{9}})
	a.agree()
	b.agree()
}

// A trie keeps as many as its limit, and one more takes the eldest's place.
func TestEachLimit(t *testing.T) {
	for _, limit := range []int{1, 2, 3, 1023, 1024} {
		b := made(t, limit)
		for n := range limit {
			b.put(numbered(n), grid{{byte(n)}})
		}
		if b.x.Len() != limit {
			t.Errorf("limit %d: Len = %d", limit, b.x.Len())
		}
		b.agree()
		for n := range 3 {
			b.put(numbered(limit+n), nil)
			b.peek(numbered(n))
			b.peek(numbered(n + 1))
			b.peek(numbered(limit + n))
			if b.x.Len() != limit {
				t.Errorf("limit %d: Len = %d behind one more", limit, b.x.Len())
			}
		}
		b.agree()
	}
}

// numbered: a key of its own for each number.
func numbered(n int) []int {
	key := []int{}
	for i := range 12 {
		if n>>i&1 == 1 {
			key = append(key, 23*i+i%2)
		}
	}
	return key
}

// P12.2

func TestPutOfEveryKindOfKey(t *testing.T) {
	keys := [][]int{{}, {0}, {255}, {0, 255}, {1}, {254, 255}, {0, 1, 2}, {7, 77, 177}, allNumbers(), allNumbers()[:255], allNumbers()[1:], allNumbers()[128:]}
	for n := range 256 {
		keys = append(keys, []int{n})
	}
	for _, key := range keys {
		b := made(t, 1).with(key)
		b.agree()
		b.get(key)
		if b.x.Nodes() != len(key) {
			t.Errorf("Nodes of %s alone = %d", few(key), b.x.Nodes())
		}
	}
	made(t, 1024).with(keys...).agree()
}

// The empty key is kept like any other, and is one whether nil or not.
func TestTheEmptyKey(t *testing.T) {
	for _, key := range [][]int{nil, {}, make([]int, 0, 5)} {
		b := made(t, 2)
		b.put(key, grid{{1}})
		b.agree()
		b.put([]int{3}, grid{{2}})
		for _, other := range [][]int{nil, {}, make([]int, 0, 7)} {
			b.peek(other)
			b.get(other)
			b.agree()
			b.put(other, grid{{4}})
			b.agree()
		}
		b.put([]int{4}, nil)
		b.agree()
		b.drop(nil)
		b.agree()
		b.drop([]int{})
		b.agree()
	}
}

func TestPutOfEveryKindOfValue(t *testing.T) {
	values := []grid{nil, {}, {nil}, {{}}, {nil, nil}, {{}, nil, {}}, {{0}}, {{0}, {}}, {nil, {255}}, {{1, 2, 3}, {4}, nil, {5, 6}}, {make([]byte, 1000), {7}}, make(grid, 256)}
	for _, first := range values {
		for _, second := range values {
			b := made(t, 2)
			b.put([]int{5}, first)
			b.agree()
			b.get([]int{5})
			b.put([]int{5}, second)
			b.agree()
			b.get([]int{5})
			b.put([]int{5, 6}, first)
			b.agree()
		}
	}
}

// What is no key is refused, and nothing has changed: in an empty trie, in one with room, in a full one.
func TestPutRefusesWhatIsNoKey(t *testing.T) {
	for _, fill := range [][][]int{nil, {{0}, {255}, {1}}, {{0}, {255}, {1, 4}, {}, allNumbers()}} {
		b := made(t, 5).with(fill...)
		for _, list := range noKeys() {
			if e := b.x.Put(list, grid{{66}}); e != api.ErrKey {
				t.Errorf("Put(%s) = %d, want ErrKey", few(list), e)
			}
			b.agree()
		}
	}
}

// Put over an elder value takes nobody's place, with and without room, and is a use.
func TestPutOverAnElderValue(t *testing.T) {
	for _, limit := range []int{3, 4, 1024} {
		for _, key := range [][]int{{1}, {1, 4}, {2}} {
			b := made(t, limit).with([]int{1}, []int{1, 4}, []int{2})
			b.put(key, grid{{9, 9}, {8}})
			b.agree()
			b.put([]int{3}, nil)
			b.agree()
			b.put([]int{4}, nil)
			b.agree()
		}
	}
}

func TestAFullTrieOfOne(t *testing.T) {
	b := made(t, 1)
	for _, key := range [][]int{{1, 4}, {1, 4}, {1}, {1, 4, 5}, {}, {}, {1}, {0, 1}, allNumbers(), allNumbers()[:3], {255}, {255}, nil} {
		b.with(key)
		b.agree()
		b.get(key)
		if b.x.Len() != 1 {
			t.Errorf("Len = %d", b.x.Len())
		}
	}
	b.drop([]int{})
	b.agree()
	b.with([]int{9})
	b.agree()
}

// Each key in turn is the eldest, whatever the others are to it.
func TestTheEldestGoes(t *testing.T) {
	keys := [][]int{{}, {1}, {1, 4}, {1, 4, 9}, {1, 5}, {0, 5}, {255}}
	for i := range keys {
		b := made(t, len(keys)).with(keys[i:]...).with(keys[:i]...)
		for j := range keys {
			b.put([]int{100 + j}, nil)
			b.agree()
			b.peek(keys[(i+j)%len(keys)])
		}
	}
}

// A key of which another is the beginning: the longer or the shorter one is laid, dropped or gone first.
func TestBeginningsOfOneAnother(t *testing.T) {
	ways := [][][]int{
		{{1}, {1, 4}}, {{}, {0}}, {{}, {7, 8, 9}}, {{1}, {1, 4, 200, 255}}, {allNumbers()[:1], allNumbers()}, {allNumbers()[:255], allNumbers()},
		{{1, 4}, {1, 5}}, {{1, 4, 6}, {1, 5, 6}}, {{1, 2, 3}, {2, 3}},
	}
	for _, keys := range ways {
		for _, first := range []int{0, 1} {
			a, z := keys[first], keys[1-first]
			for _, gone := range []int{0, 1} {
				b := made(t, 2).with(a, z)
				b.agree()
				b.drop(keys[gone])
				b.agree()
				b.get(keys[1-gone])
				b.drop(keys[1-gone])
				b.agree()
			}
			b := made(t, 2).with(a, z, []int{100})
			b.agree()
			b.with([]int{100, 101})
			b.agree()
			b = made(t, 1).with(a, z, a)
			b.agree()
			b = made(t, 2).with(a, z)
			b.get(a)
			b.with([]int{1, 2})
			b.agree()
		}
	}
}

// P12.3

func TestGetUsesAndPeekDoesNot(t *testing.T) {
	keys := [][]int{{}, {1}, {1, 4}, {2}}
	for _, key := range keys {
		b := made(t, 4).with(keys...)
		b.peek(key)
		b.agree()
		b.get(key)
		b.agree()
		if recent := b.x.Recent(); !slices.Equal(recent[0], key) {
			t.Errorf("behind Get(%v) Recent is %v", key, recent)
		}
		b.get(key)
		b.agree()
		for n := range 4 {
			b.put([]int{9, 10 + n}, nil)
			b.agree()
		}
	}
}

// Nothing is kept where a key ends in the midst of another, goes on behind one, or branches off.
func TestGetOfWhatIsNotKept(t *testing.T) {
	b := made(t, 3).with([]int{1, 4, 9}, []int{2}, []int{3, 255})
	for _, key := range [][]int{nil, {}, {1}, {1, 4}, {1, 4, 9, 10}, {1, 9}, {4}, {4, 9}, {9}, {0}, {2, 3}, {3}, {255}, {0, 1, 4, 9}, {1, 4, 8}, allNumbers()} {
		for _, ask := range []func([]int) (grid, bool){b.x.Get, b.x.Peek} {
			if value, ok := ask(key); ok || len(value) != 0 {
				t.Errorf("of %s: %v, %v", few(key), value, ok)
			}
		}
		if b.x.Drop(key) {
			t.Errorf("Drop(%s) took something", few(key))
		}
		b.agree()
	}
}

// A list that is no key is none, however like one that is kept it is.
func TestGetOfWhatIsNoKey(t *testing.T) {
	b := made(t, 12).with([]int{}, []int{0}, []int{1}, []int{255}, []int{0, 1}, []int{0, 1, 2}, []int{1, 4}, []int{0, 255}, []int{3, 4, 5}, allNumbers())
	for _, list := range noKeys() {
		for _, ask := range []func([]int) (grid, bool){b.x.Get, b.x.Peek} {
			if value, ok := ask(list); ok || len(value) != 0 {
				t.Errorf("of %s: %v, %v", few(list), value, ok)
			}
		}
		if b.x.Drop(list) {
			t.Errorf("Drop(%s) took something", few(list))
		}
		if have := b.x.Under(list); len(have) != 0 {
			t.Errorf("Under(%s) = %s", few(list), few(have))
		}
		b.agree()
	}
}

// P12.4

func TestDrop(t *testing.T) {
	keys := [][]int{{}, {1}, {1, 4}, {1, 4, 9}, {2, 3}, {2, 4}, {255}, allNumbers()}
	for i, key := range keys {
		b := made(t, 8).with(keys...)
		b.drop(key)
		b.agree()
		b.drop(key)
		b.agree()
		b.get(key)
		for _, other := range keys[i:] {
			b.drop(other)
			b.agree()
		}
		b.with(key)
		b.agree()
	}
}

// A beginning of a key that is kept, and what goes on behind one, isn't there to be dropped.
func TestDropOfABeginning(t *testing.T) {
	b := made(t, 2).with([]int{1, 4, 9}, []int{1, 4, 10})
	for _, key := range [][]int{nil, {1}, {1, 4}, {1, 4, 9, 10}, {1, 4, 10, 11}, {4}, {9}} {
		if b.x.Drop(key) {
			t.Errorf("Drop(%v) took something", key)
		}
		b.agree()
	}
}

// What is dropped makes room: nobody else goes.
func TestDropMakesRoom(t *testing.T) {
	b := made(t, 3).with([]int{1}, []int{2}, []int{3})
	b.drop([]int{2})
	b.with([]int{4})
	b.agree()
	if b.x.Len() != 3 {
		t.Errorf("Len = %d", b.x.Len())
	}
	b.with([]int{5})
	b.agree()
}

// P12.5

func TestNodes(t *testing.T) {
	for _, c := range []struct {
		keys [][]int
		want int
	}{
		{nil, 0},
		{[][]int{{}}, 0},
		{[][]int{{7}}, 1},
		{[][]int{{}, {7}}, 1},
		{[][]int{{1}, {1, 4}}, 2},
		{[][]int{{1, 4}}, 2},
		{[][]int{{0, 5}, {1, 4}}, 4},
		{[][]int{{1, 2, 3}, {1, 2, 4}}, 4},
		{[][]int{{1, 3}, {2, 3}, {3}}, 5},
		{[][]int{allNumbers(), allNumbers()[:100]}, 256},
		{[][]int{allNumbers(), allNumbers()[1:]}, 511},
	} {
		b := made(t, 8).with(c.keys...)
		if have := b.x.Nodes(); have != c.want {
			t.Errorf("Nodes of %s = %d, want %d", few(c.keys), have, c.want)
		}
		for _, key := range c.keys {
			b.drop(key)
			b.agree()
		}
		if b.x.Nodes() != 0 || b.x.Len() != 0 {
			t.Errorf("%s dropped: Nodes %d, Len %d", few(c.keys), b.x.Nodes(), b.x.Len())
		}
	}
}

// A trie that many keys have gone through keeps no node of those that went.
func TestNoNodeIsLeftBehind(t *testing.T) {
	b, d := made(t, 3), dice(40)
	for range 300 {
		b.with(d.key(allNumbers(), 256))
		b.agreeBriefly()
	}
	b.agree()
	for _, key := range b.x.Recent() {
		b.drop(key)
	}
	b.agree()
}

// P12.6

func TestRecent(t *testing.T) {
	b := made(t, 4)
	steps := []struct {
		do   func()
		want string
	}{
		{func() { b.with([]int{1}) }, "[[1]]"},
		{func() { b.with([]int{1, 2}) }, "[[1 2] [1]]"},
		{func() { b.with([]int{}) }, "[[] [1 2] [1]]"},
		{func() { b.get([]int{1}) }, "[[1] [] [1 2]]"},
		{func() { b.peek([]int{1, 2}) }, "[[1] [] [1 2]]"},
		{func() { b.with([]int{}) }, "[[] [1] [1 2]]"},
		{func() { b.with([]int{0}) }, "[[0] [] [1] [1 2]]"},
		{func() { b.get([]int{0}) }, "[[0] [] [1] [1 2]]"},
		{func() { b.get([]int{5}) }, "[[0] [] [1] [1 2]]"},
		{func() { b.drop([]int{}) }, "[[0] [1] [1 2]]"},
		{func() { b.get([]int{1, 2}) }, "[[1 2] [0] [1]]"},
		{func() { b.with([]int{7}, []int{8}) }, "[[8] [7] [1 2] [0]]"},
	}
	for i, step := range steps {
		step.do()
		if have := fmt.Sprint(b.x.Recent()); have != step.want {
			t.Errorf("step %d: Recent = %s, want %s", i, have, step.want)
		}
	}
}

func TestUnder(t *testing.T) {
	b := made(t, 20).with([]int{2, 200}, []int{1, 4}, []int{}, []int{1, 10}, []int{1}, []int{1, 4, 9}, []int{255}, []int{1, 4, 255}, []int{0, 1, 4}, []int{10}, []int{2, 3, 4})
	for _, c := range []struct {
		prefix []int
		want   string
	}{
		{nil, "[[] [0 1 4] [1] [1 4] [1 4 9] [1 4 255] [1 10] [2 3 4] [2 200] [10] [255]]"},
		{[]int{}, "[[] [0 1 4] [1] [1 4] [1 4 9] [1 4 255] [1 10] [2 3 4] [2 200] [10] [255]]"},
		{[]int{1}, "[[1] [1 4] [1 4 9] [1 4 255] [1 10]]"},
		{[]int{1, 4}, "[[1 4] [1 4 9] [1 4 255]]"},
		{[]int{1, 4, 9}, "[[1 4 9]]"},
		{[]int{1, 4, 9, 10}, "[]"},
		{[]int{0}, "[[0 1 4]]"},
		{[]int{0, 1}, "[[0 1 4]]"},
		{[]int{2}, "[[2 3 4] [2 200]]"},
		{[]int{4}, "[]"},
		{[]int{1, 2}, "[]"},
		{[]int{255}, "[[255]]"},
		{[]int{4, 1}, "[]"},
		{[]int{1, 1}, "[]"},
		{[]int{256}, "[]"},
		{[]int{-1}, "[]"},
	} {
		if have := fmt.Sprint(b.x.Under(c.prefix)); have != c.want {
			t.Errorf("Under(%v) = %s, want %s", c.prefix, have, c.want)
		}
	}
	b.agree()
}

// The order is by numbers, over all of a node's children, however they were laid.
func TestUnderManyChildren(t *testing.T) {
	b := made(t, 1024)
	for n := range 256 {
		b.with([]int{n * 77 % 256})
	}
	for n := range 255 {
		b.with([]int{0, n*91%255 + 1})
	}
	b.agree()
	b.under([]int{0})
	for n := range 256 {
		b.under([]int{n})
	}
	if have := b.x.Under(nil); len(have) != 511 || have[0][0] != 0 || have[255][1] != 255 || have[510][0] != 255 {
		t.Errorf("Under of nothing = %s", few(have))
	}
}

// P12.9

func TestTheNilTrie(t *testing.T) {
	var x *Trie
	for _, list := range append(noKeys(), nil, []int{}, []int{0}, []int{1, 4}, allNumbers()) {
		for _, value := range []grid{nil, {}, {{1}}} {
			if e := x.Put(list, value); e != api.ErrNil {
				t.Errorf("Put(%s) of a nil trie = %d, want ErrNil", few(list), e)
			}
		}
		for _, ask := range []func([]int) (grid, bool){x.Get, x.Peek} {
			if value, ok := ask(list); ok || len(value) != 0 {
				t.Errorf("of %s a nil trie has %v, %v", few(list), value, ok)
			}
		}
		if x.Drop(list) || len(x.Under(list)) != 0 {
			t.Errorf("a nil trie has %s", few(list))
		}
	}
	if x.Len() != 0 || x.Nodes() != 0 || len(x.Recent()) != 0 {
		t.Errorf("a nil trie: Len %d, Nodes %d, Recent %v", x.Len(), x.Nodes(), x.Recent())
	}
	walk := x.All()
	if walk == nil || len(gone(walk)) != 0 || len(gone(walk)) != 0 {
		t.Error("a nil trie's walk gives something")
	}
}

// The chapter's examples.
func TestExamples(t *testing.T) {
	a, b, c, d, e := grid{{1}}, grid{{2}, {3, 4}}, grid{}, grid{{}, {5}}, grid{{6}}
	x, _ := New(2)
	is := func(what string, have any, want string) {
		t.Helper()
		if fmt.Sprint(have) != want {
			t.Errorf("%s = %v, want %s", what, have, want)
		}
	}
	all := func() [][]int { return walked(x) }
	is("Put([1 4], A)", int(x.Put([]int{1, 4}, a)), "0")
	is("Put([1], B)", int(x.Put([]int{1}, b)), "0")
	is("All", all(), "[[1] [1 4]]")
	is("Recent", x.Recent(), "[[1] [1 4]]")
	is("Nodes", x.Nodes(), "2")
	is("Under([1])", x.Under([]int{1}), "[[1] [1 4]]")
	is("Under([4])", x.Under([]int{4}), "[]")
	value, ok := x.Get([]int{1, 4})
	is("Get([1 4])", fmt.Sprint(value, ok), "[[1]] true")
	is("Recent", x.Recent(), "[[1 4] [1]]")
	is("Put([0 5], C)", int(x.Put([]int{0, 5}, c)), "0")
	is("All", all(), "[[0 5] [1 4]]")
	is("Recent", x.Recent(), "[[0 5] [1 4]]")
	is("Nodes", x.Nodes(), "4")
	for _, list := range [][]int{{1}, {4, 1}, {256}, {-1}} {
		value, ok = x.Get(list)
		is(fmt.Sprintf("Get(%v)", list), fmt.Sprint(value, ok), "[] false")
	}
	is("Put([4 1], A)", x.Put([]int{4, 1}, a) == api.ErrKey, "true")
	value, ok = x.Peek([]int{1, 4})
	is("Peek([1 4])", fmt.Sprint(value, ok), "[[1]] true")
	is("Recent", x.Recent(), "[[0 5] [1 4]]")
	is("Put([1 4], D)", int(x.Put([]int{1, 4}, d)), "0")
	is("Recent", x.Recent(), "[[1 4] [0 5]]")
	is("Len", x.Len(), "2")
	is("Put([], E)", int(x.Put([]int{}, e)), "0")
	is("All", all(), "[[] [1 4]]")
	is("Nodes", x.Nodes(), "2")
	is("Drop([1 4])", x.Drop([]int{1, 4}), "true")
	is("Drop([1 4])", x.Drop([]int{1, 4}), "false")
	is("Len", x.Len(), "1")
	is("Nodes", x.Nodes(), "0")
}
