package store

import (
	"bytes"
	"fmt"
	"math"
	"runtime"
	"slices"
	"strings"
	"testing"
	"time"

	"cullet/api"
)

// P1 and the document's rules.

// strange: arguments of every kind, for each call.
func strange() []step {
	var list []step
	for kind := put; kind <= spoil; kind++ {
		for _, name := range []string{"", "a", strings.Repeat("\xff", 64), strings.Repeat("x", 1000)} {
			for _, number := range []int{math.MinInt, -1, 0, 1, 3, 64, math.MaxInt} {
				for _, data := range [][]byte{nil, {}, {1, 2, 3}} {
					list = append(list, step{kind, name, number, number, data, 7})
				}
			}
		}
	}
	return list
}

// A nil store answers ErrNil to everything, whatever else is wrong; and no names.
func TestNilStore(t *testing.T) {
	for _, x := range strange() {
		if got := x.on(nil); !got.equals(answer{fault: api.ErrNil}) {
			t.Errorf("%v of a nil store: %v", x, got)
		}
	}
	var none *Store
	for name := range none.Names() {
		t.Errorf("a nil store has the name %q", name)
	}
}

// The calls of a zero struct and of a copy of a store end, and don't panic.
func TestOtherStores(t *testing.T) {
	s, _ := New(setting{api.Vander, 2, 1}.options(), 16, 3)
	s.Put("a", []byte{1, 2, 3})
	for _, x := range strange() {
		other := *s
		x.on(&other)
		x.on(&Store{})
		for range other.Names() {
		}
	}
	for name := range (&Store{}).Names() {
		t.Errorf("a zero store has the name %q", name)
	}
}

// framed: a copy of the list amid other bytes, which are its spare room too.
func framed(list []byte) (inner, whole []byte) {
	whole = slices.Concat([]byte{0xE1, 0xE2}, list, bytes.Repeat([]byte{0xE3}, 70))
	return whole[2 : 2+len(list)], whole
}

// What is handed in is neither changed nor kept, its spare room included.
func TestDataIsNotChangedOrKept(t *testing.T) {
	d := dice(31)
	for _, s := range small() {
		p := newPair(t, s.options(), 16, s.count())
		for range 20 {
			for _, kind := range []int{put, patch} {
				data := d.bytes(3 + d.next(30))
				if kind == patch {
					data = data[:3]
				}
				inner, whole := framed(data)
				was := bytes.Clone(whole)
				p.do(t, step{kind: kind, name: "a", data: inner})
				if !bytes.Equal(whole, was) {
					t.Fatalf("%v, the call %d: what was handed in has changed", s, kind)
				}
				for i := range whole {
					whole[i] = 0xA5
				}
				p.compare(t, "what was handed in is another", []string{"a"})
			}
		}
	}
}

// spoilAll writes over a list and its spare room.
func spoilAll[T byte | int](list []T) {
	list = list[:cap(list)]
	for i := range list {
		list[i] ^= 0x5A
	}
}

// Answers are new memory: writing over them changes nothing of the store, and no other answer.
func TestAnswersAreNew(t *testing.T) {
	for _, s := range small() {
		p := newPair(t, s.options(), 16, s.count())
		p.do(t, step{kind: put, name: "a", data: []byte("an object")})
		p.do(t, step{kind: put, name: "b", data: []byte("an object")})
		p.do(t, step{kind: remove, name: "b"})
		first := p.m.home("a")[0]
		for range 3 {
			p.do(t, step{kind: spoil, name: "a", node: first, at: 48, mask: 1})
			p.do(t, step{kind: spoil, name: "b", node: first, at: 5, mask: 1})
			for _, name := range []string{"a", "b"} {
				for _, kind := range []int{get, heal, home, file} {
					got := step{kind: kind, name: name, node: first}.on(p.s)
					want := step{kind: kind, name: name, node: first}.in(p.m)
					again := step{kind: get, name: "a"}.on(p.s)
					spoilAll(got.data)
					spoilAll(got.numbers)
					if got.fault != want.fault || string(again.data) != "an object" {
						t.Fatalf("%v, the call %d: %v, or another answer has changed", s, kind, got)
					}
					p.compare(t, "answers are others", []string{"a", "b"})
				}
			}
		}
	}
}

// Each node keeps its file in memory of its own: one that is spoilt, at any place, spoils no other, be it a shard or a tomb, written or healed.
func TestFilesAreApart(t *testing.T) {
	for _, s := range small() {
		for _, last := range []int{put, patch, remove, heal} {
			p := newPair(t, s.options(), 16, s.count())
			nodes := p.m.home("a")
			p.do(t, step{kind: put, name: "a", data: []byte("an object")})
			p.do(t, step{kind: put, name: "b", data: []byte("an object")})
			if last == heal {
				p.do(t, step{kind: remove, name: "b"})
				for _, node := range nodes[:s.m] {
					p.do(t, step{kind: wipe, node: node})
				}
				p.do(t, step{kind: heal, name: "b"})
			}
			p.do(t, step{kind: last, name: "a", data: []byte("another")})
			for i, node := range nodes {
				for _, name := range []string{"a", "b"} {
					p.do(t, step{kind: spoil, name: name, node: node, at: i, mask: 255})
					p.compare(t, fmt.Sprintf("%v, behind the call %d node %d is spoilt", s, last, node), []string{"a", "b"})
				}
			}
		}
	}
}

// Nil and empty lists are one.
func TestNilAndEmpty(t *testing.T) {
	p := example(t)
	p.do(t, step{kind: put, name: "a", data: []byte("an object")})
	for _, none := range [][]byte{nil, {}, []byte("rest")[:0]} {
		p.expect(t, step{kind: put, name: "a", data: none}, answer{fault: api.ErrNoData})
		for at := -1; at <= 10; at++ {
			want := answer{}
			if at < 0 || at > 9 {
				want.fault = api.ErrPlace
			}
			p.expect(t, step{kind: patch, name: "a", at: at, data: none}, want)
		}
	}
	p.compare(t, "nothing was put", []string{"a"})
	o := setting{api.Vander, 2, 1}.options()
	for _, picks := range [][]int{nil, {}} {
		o.Scripted, o.Picks = true, picks
		q := newPair(t, o, 16, 3)
		q.do(t, step{kind: put, name: "a", data: []byte("an object")})
		q.compare(t, "no picks", []string{"a"})
	}
}

// Names goes over what was there when it was called, several times, stopped early and nested.
func TestNamesAsTheyWere(t *testing.T) {
	p := example(t)
	empty := p.s.Names()
	for _, name := range []string{"c", "a", "b"} {
		p.do(t, step{kind: put, name: name, data: []byte{1}})
	}
	all := p.s.Names()
	p.do(t, step{kind: put, name: "aa", data: []byte{1}})
	p.do(t, step{kind: remove, name: "b"})
	for node := range 4 {
		p.do(t, step{kind: down, node: node})
		p.do(t, step{kind: wipe, node: node})
	}
	for name := range empty {
		t.Errorf("there is the name %q", name)
	}
	for stop := range 5 {
		var got []string
		for name := range all {
			if len(got) == stop {
				break
			}
			got = append(got, name)
			if inner := slices.Collect(all); !slices.Equal(inner, []string{"a", "b", "c"}) {
				t.Errorf("names within names: %q", inner)
			}
			// The store may be changed on the way.
			p.s.Up(0)
			p.s.Put("on the way", []byte{1})
		}
		if !slices.Equal(got, []string{"a", "b", "c"}[:min(stop, 3)]) {
			t.Errorf("the first %d names: %q", stop, got)
		}
	}
}

// What is answered hangs on the calls alone: not on the backend, the workers, the stripe, the schedule, the cache, nor on the order in which maps are gone through.
func TestStoresOfManyOptionsAreAlike(t *testing.T) {
	names := []string{"a", "b", "c", "d", "e"}
	for i, s := range small() {
		d := dice(41 + i)
		first := newPair(t, s.options(), 16, s.count()+1)
		var others []*Store
		for _, o := range s.manyOptions() {
			others = append(others, openStore(t, o, s.count()+1))
		}
		for range 60 {
			x := first.anyStep(&d, names)
			want := first.do(t, x)
			listed := slices.Collect(first.s.Names())
			for _, other := range others {
				if got := x.on(other); !got.equals(want) || !slices.Equal(slices.Collect(other.Names()), listed) {
					t.Fatalf("%+v: %v: %v, or other names; of another store %v", other.options, x, got, want)
				}
			}
		}
	}
}

// All goroutines that a call has started have ended when it answers. (One that has done its last act may still be counted for a moment.)
func TestNoGoroutineIsLeft(t *testing.T) {
	was := runtime.NumGoroutine()
	for _, s := range []setting{{api.Vander, 3, 2}, {api.Long, 3, 2}} {
		for _, scripted := range []bool{false, true} {
			o := s.options()
			o.Workers, o.Stripe, o.Scripted = 64, 1, scripted
			p := newPair(t, o, 16, s.count())
			for _, x := range []step{{kind: put, data: bytes.Repeat([]byte{1, 2, 3}, 40)}, {kind: wipe, node: 1}, {kind: patch, at: 3, data: []byte{9}}, {kind: wipe, node: 2}, {kind: get}, {kind: heal}} {
				x.name = "a"
				p.do(t, x)
			}
			p.compare(t, "many workers", []string{"a"})
		}
	}
	for wait := 0; runtime.NumGoroutine() > was && wait < 2000; wait++ {
		time.Sleep(time.Millisecond)
	}
	if now := runtime.NumGoroutine(); now > was {
		t.Errorf("%d goroutines, and %d ahead", now, was)
	}
}

// Names and refused calls work out no sums of blocks: they take no memory for the objects' bytes.
func TestHeadsAlone(t *testing.T) {
	s := openStore(t, setting{api.Vander, 1, 7}.options(), 8)
	for _, name := range []string{"a", "b", "c"} {
		must(t, s.Put(name, make([]byte, 1<<20)))
	}
	must(t, s.Delete("c"))
	var before, behind runtime.MemStats
	runtime.ReadMemStats(&before)
	for range 5 {
		if got := slices.Collect(s.Names()); !slices.Equal(got, []string{"a", "b"}) {
			t.Errorf("Names: %q", got)
		}
		if fault := s.Delete("c"); fault != api.ErrNone {
			t.Errorf("Delete of a deleted object: %d", fault)
		}
	}
	runtime.ReadMemStats(&behind)
	if taken := behind.TotalAlloc - before.TotalAlloc; taken > 1<<20 {
		t.Errorf("%d bytes were taken", taken)
	}
}
