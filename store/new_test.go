package store

import (
	"math"
	"slices"
	"testing"

	"cullet/api"
	"cullet/engine"
)

// New: its errors in their order, its limits, and what it makes.

func checkNew(t *testing.T, o api.Options, block, nodes int) api.Errno {
	t.Helper()
	_, ofEngine := engine.New(o)
	want := firstOf(
		question{ofEngine, ofEngine != api.OK},
		question{api.ErrBlock, block < 16 || block > 1<<20 || o.Family == api.Long && block&1 == 1},
		question{api.ErrNodes, nodes < o.Data+o.Parity || nodes > 64})
	s, fault := New(o, block, nodes)
	if fault != want || (s == nil) != (want != api.OK) {
		t.Fatalf("New(%+v, %d, %d): %v, %d, it is to be %d", o, block, nodes, s, fault, want)
	}
	return fault
}

// Every mix of options, blocks and nodes that are right, or wrong by a little or by much.
func TestNew(t *testing.T) {
	seen := map[api.Errno]int{}
	for _, f := range []api.Family{-1, api.Vander, api.Cauchy, api.Long, 3} {
		for _, b := range []api.Backend{api.Table, api.Fast} {
			for _, counts := range [][2]int{{0, 1}, {2, 1}, {2, 0}, {1, 63}, {63, 1}, {64, 1}, {200, 56}, {200, 57}, {math.MaxInt, math.MaxInt}} {
				for _, numbers := range [][3]int{{1, 1, 1}, {0, 0, 0}, {64, 1 << 24, 1024}, {65, 1, 1}, {1, 1<<24 + 1, 0}, {1, 0, 1}, {1, 1, 0}, {1, 1, 1025}} {
					for _, block := range []int{math.MinInt, -2, 0, 15, 16, 17, 1<<20 - 1, 1 << 20, 1<<20 + 1, 1<<20 + 2, math.MaxInt} {
						for _, nodes := range []int{math.MinInt, -1, 0, 2, 3, 4, 63, 64, 65, 256, math.MaxInt} {
							o := api.Options{Family: f, Backend: b, Data: counts[0], Parity: counts[1], Workers: numbers[0], Stripe: numbers[1], Cache: numbers[2]}
							seen[checkNew(t, o, block, nodes)]++
						}
					}
				}
			}
		}
	}
	for _, fault := range []api.Errno{api.OK, api.ErrFamily, api.ErrBackend, api.ErrParams, api.ErrWorkers, api.ErrStripe, api.ErrRange, api.ErrBlock, api.ErrNodes} {
		if seen[fault] == 0 {
			t.Errorf("New never answered %d", fault)
		}
	}
}

// A new store has nothing, its nodes are all up, and each is another one.
func TestNewStore(t *testing.T) {
	for _, s := range small() {
		for _, o := range s.manyOptions() {
			for _, nodes := range []int{s.count(), s.count() + 1, 64} {
				p := newPair(t, o, 16, nodes)
				p.compare(t, "New", []string{"a", "b"})
				for _, kind := range []int{get, patch, remove, heal} {
					if got := p.do(t, step{kind: kind, name: "a"}); got.fault != api.ErrNone {
						t.Fatalf("%v: the call %d: %v", s, kind, got)
					}
				}
				other := newPair(t, o, 16, nodes)
				p.do(t, step{kind: put, name: "a", data: []byte{1}})
				p.do(t, step{kind: down, node: 1})
				other.compare(t, "another store", []string{"a"})
			}
		}
	}
}

// What the store was made with is copied.
func TestPicksAreNotKept(t *testing.T) {
	picks := []int{9, 8, 7, 6}
	o := setting{api.Vander, 2, 1}.options()
	o.Scripted, o.Picks = true, picks[1:3]
	s, _ := New(o, 16, 3)
	if !slices.Equal(picks, []int{9, 8, 7, 6}) {
		t.Error("New changed the picks")
	}
	clear(picks)
	if !slices.Equal(s.options.Picks, []int{8, 7}) {
		t.Error("the store's picks are the caller's")
	}
	s.Put("a", []byte{1, 2, 3})
	if !slices.Equal(picks, make([]int, 4)) {
		t.Error("Put changed the picks")
	}
}
