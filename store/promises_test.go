package store

import (
	"bytes"
	"fmt"
	"slices"
	"testing"

	"cullet/api"
)

// P26.2 to P26.5, and P9. Here nothing is held against the model, but against what was put.

func openStore(t *testing.T, o api.Options, nodes int) *Store {
	t.Helper()
	s, fault := New(o, 16, nodes)
	if fault != api.OK {
		t.Fatalf("New(%+v, 16, %d): %d", o, nodes, fault)
	}
	return s
}

// must: no error.
func must(t *testing.T, fault api.Errno) {
	t.Helper()
	if fault != api.OK {
		t.Fatalf("error %d", fault)
	}
}

func checkGet(t *testing.T, what string, s *Store, name string, want []byte) {
	t.Helper()
	if got, fault := s.Get(name); fault != api.OK || !bytes.Equal(got, want) {
		t.Fatalf("%s: Get(%q): %x, %d, it is to be %x", what, name, got, fault, want)
	}
}

// homeOf: by the store's own call.
func homeOf(t *testing.T, s *Store, name string) []int {
	t.Helper()
	home, fault := s.Home(name)
	must(t, fault)
	return home
}

// writers: ways in which an object comes to be whole on all its home nodes; each answers its bytes.
func writers() []func(t *testing.T, s *Store, name string) []byte {
	data := []byte("some forty bytes that lie in more blocks.")
	return []func(t *testing.T, s *Store, name string) []byte{
		func(t *testing.T, s *Store, name string) []byte {
			must(t, s.Put(name, data))
			return data
		},
		func(t *testing.T, s *Store, name string) []byte {
			must(t, s.Put(name, data))
			must(t, s.Patch(name, 5, []byte("FIFTY")))
			return []byte("some FIFTY bytes that lie in more blocks.")
		},
		func(t *testing.T, s *Store, name string) []byte {
			must(t, s.Put(name, []byte("an elder object")))
			last := homeOf(t, s, name)
			must(t, s.Down(last[len(last)-1]))
			if s.Put(name, data) == api.ErrQuorum {
				must(t, s.Up(last[len(last)-1]))
				must(t, s.Put(name, data))
			}
			must(t, s.Up(last[len(last)-1]))
			_, fault := s.Heal(name)
			must(t, fault)
			return data
		},
	}
}

// The fates of a node.
const (
	goesDown = iota
	isWiped
	isSpoilt
	isSpoiltAndDown
	fates
)

func befall(t *testing.T, d *dice, s *Store, name string, node, fate int) {
	t.Helper()
	if fate == isSpoilt || fate == isSpoiltAndDown {
		kept, fault := s.File(node, name)
		must(t, fault)
		must(t, s.Spoil(node, name, d.next(len(kept)), byte(1+d.next(255))))
	}
	if fate == goesDown || fate == isSpoiltAndDown {
		must(t, s.Down(node))
	}
	if fate == isWiped {
		must(t, s.Wipe(node))
	}
}

// P26.2: every choice of at most m home nodes with every fate of each.
func TestNothingIsLost(t *testing.T) {
	for i, x := range small() {
		t.Run(x.String(), func(t *testing.T) {
			t.Parallel()
			d := dice(400 + i)
			for _, write := range writers() {
				for _, lost := range subsets(x.count(), x.m) {
					countLists(len(lost), fates, func(list []int) {
						s := openStore(t, x.options(), x.count()+1)
						want := write(t, s, "name")
						home := homeOf(t, s, "name")
						for i, number := range lost {
							befall(t, &d, s, "name", home[number], list[i])
						}
						checkGet(t, fmt.Sprintf("%v without %v, fates %v", x, lost, list), s, "name", want)
					})
				}
			}
		})
	}
}

// P26.2: one file is spoilt at each of its places, with many masks; the object is got, and Heal names the node.
func TestEachByteIsSpoilt(t *testing.T) {
	masks := []byte{1, 2, 4, 8, 16, 32, 64, 128, 255}
	for _, x := range []setting{{api.Vander, 2, 1}, {api.Cauchy, 1, 1}} {
		s := openStore(t, x.options(), x.count())
		want := writers()[0](t, s, "name")
		for _, node := range homeOf(t, s, "name") {
			kept, _ := s.File(node, "name")
			for at := range kept {
				mask := masks[at%len(masks)]
				must(t, s.Spoil(node, "name", at, mask))
				what := fmt.Sprintf("%v, node %d at %d by %d", x, node, at, mask)
				checkGet(t, what, s, "name", want)
				if healed, fault := s.Heal("name"); fault != api.OK || !slices.Equal(healed, []int{node}) {
					t.Fatalf("%s: Heal: %v, %d", what, healed, fault)
				}
				if now, _ := s.File(node, "name"); !bytes.Equal(now, kept) {
					t.Fatalf("%s: the healed file is another one", what)
				}
			}
		}
	}
}

// newestOf tells what Get may answer of a name.
type newestOf map[string][]byte

// write makes a writing of any kind; what was answered OK counts.
func (n newestOf) write(t *testing.T, d *dice, s *Store, name string) {
	t.Helper()
	old, data := n[name], d.bytes(1+d.next(40))
	switch d.next(4) {
	case 0, 1:
		if s.Put(name, data) == api.OK {
			n[name] = data
		}
	case 2:
		at := d.next(len(old) + 1)
		data = data[:min(len(data), len(old)-at)]
		if s.Patch(name, at, data) == api.OK {
			fresh := bytes.Clone(old)
			copy(fresh[at:], data)
			n[name] = fresh
		}
	case 3:
		if s.Delete(name) == api.OK {
			delete(n, name)
		}
	}
}

// P26.3: nodes go down and come up, and objects are put, patched, deleted and healed at any time: what is got is the newest.
func TestNeverAnOlderState(t *testing.T) {
	names := []string{"a", "b", "c"}
	for i, x := range small() {
		t.Run(x.String(), func(t *testing.T) {
			t.Parallel()
			d := dice(500 + i)
			got := map[api.Errno]int{}
			for range 6 {
				s, now := openStore(t, x.options(), x.count()+d.next(3)), newestOf{}
				for range 200 {
					name := oneOf(&d, names...)
					switch d.next(8) {
					case 0, 1:
						must(t, s.Down(d.next(len(s.nodes))))
					case 2, 3, 4:
						must(t, s.Up(d.next(len(s.nodes))))
					case 5:
						s.Heal(name)
					default:
						now.write(t, &d, s, name)
					}
					data, fault := s.Get(name)
					got[fault]++
					want, there := now[name]
					right := fault == api.ErrQuorum || fault == api.ErrTooFew
					if fault == api.OK {
						right = there && bytes.Equal(data, want)
					}
					if fault == api.ErrNone {
						right = !there
					}
					if !right {
						t.Fatalf("Get(%q): %x, %d; the newest is %x", name, data, fault, want)
					}
				}
			}
			if got[api.OK] < 20 || got[api.ErrQuorum] < 5 || got[api.ErrNone] < 20 {
				t.Errorf("Get answered %v", got)
			}
		})
	}
}

// P26.4: behind anything, when all nodes are up again.
func TestHealMakesWhole(t *testing.T) {
	names := []string{"a", "b"}
	for i, x := range small() {
		t.Run(x.String(), func(t *testing.T) {
			t.Parallel()
			d := dice(600 + i)
			healed := 0
			for range 50 {
				p := newPair(t, x.options(), 16, x.count()+d.next(2))
				for range 14 {
					p.do(t, p.anyStep(&d, names))
				}
				for node := range p.s.nodes {
					must(t, p.s.Up(node))
				}
				for _, name := range names {
					healed += checkHeal(t, p.s, name)
				}
			}
			if healed < 4 {
				t.Errorf("%d objects were healed", healed)
			}
		})
	}
}

// checkHeal: the numbers that it answers are those of the files that change, and a second one answers none. It answers 1, if Heal has done something.
func checkHeal(t *testing.T, s *Store, name string) int {
	t.Helper()
	files := func() (list [][]byte) {
		for _, node := range homeOf(t, s, name) {
			kept, _ := s.File(node, name)
			list = append(list, kept)
		}
		return list
	}
	was, stamp := files(), s.writings
	data, fault := s.Get(name)
	nodes, healing := s.Heal(name)
	now, other := s.Get(name)
	if !bytes.Equal(now, data) || other != fault || s.writings != stamp {
		t.Fatalf("Get(%q): %x, %d, and behind Heal %x, %d; %d stamps were taken", name, data, fault, now, other, s.writings-stamp)
	}
	var differ []int
	for i, kept := range files() {
		if !bytes.Equal(kept, was[i]) {
			differ = append(differ, homeOf(t, s, name)[i])
		}
	}
	if !slices.Equal(differ, nodes) {
		t.Fatalf("Heal(%q): %v, but the files of %v differ", name, nodes, differ)
	}
	if healing != api.OK {
		return 0
	}
	if again, fault := s.Heal(name); fault != api.OK || len(again) != 0 {
		t.Fatalf("Heal(%q) again: %v, %d", name, again, fault)
	}
	checkWhole(t, s, name, files())
	return min(len(nodes), 1)
}

// checkWhole: these files of the home are all of one writing and all whole: they are the same tomb, or any k of them are enough.
func checkWhole(t *testing.T, s *Store, name string, files [][]byte) {
	t.Helper()
	want, fault := s.Get(name)
	if fault == api.ErrNone {
		for _, kept := range files {
			if len(kept) != 16 || !bytes.Equal(kept, files[0]) {
				t.Fatalf("%q is deleted, and a node keeps %x", name, kept)
			}
		}
		return
	}
	home := homeOf(t, s, name)
	for _, missing := range subsets(len(home), s.options.Parity) {
		for _, number := range missing {
			must(t, s.Down(home[number]))
		}
		checkGet(t, fmt.Sprintf("healed, without %v", missing), s, name, want)
		for _, number := range missing {
			must(t, s.Up(home[number]))
		}
	}
}

// P26.5: of two stores one has the calls about all names, the other those about one name, and those that speak of nodes: of this name they tell the same, but for stamps.
func TestNamesKnowNothingOfOneAnother(t *testing.T) {
	for i, x := range small() {
		t.Run(x.String(), func(t *testing.T) {
			t.Parallel()
			d := dice(700 + i)
			for range 5 {
				nodes := x.count() + d.next(2)
				p := newPair(t, x.options(), 16, nodes)
				alone := openStore(t, x.options(), nodes)
				for range 60 {
					next := p.anyStep(&d, []string{"a", "b", "ab"})
					got := p.do(t, next)
					if ofNodes := next.kind == down || next.kind == up || next.kind == wipe; next.name != "a" && !ofNodes {
						continue
					}
					want := next.on(alone)
					if next.kind == file {
						got.data, want.data = withoutStamps(got.data), withoutStamps(want.data)
					}
					if !got.equals(want) {
						t.Fatalf("%v: %v, and %v where no other names are", next, got, want)
					}
					if a, b := slices.Contains(slices.Collect(p.s.Names()), "a"), slices.Contains(slices.Collect(alone.Names()), "a"); a != b {
						t.Fatalf("%v: Names has a: %v, and %v where no other names are", next, a, b)
					}
				}
			}
		})
	}
}

// withoutStamps: the file's bytes but for the stamp and the sums.
func withoutStamps(kept []byte) []byte {
	if len(kept) <= 16 {
		return kept[:min(len(kept), 4)]
	}
	rest := slices.Concat(kept[:32], kept[40:44])
	for at := 48; at < len(kept); at += 20 {
		rest = append(rest, kept[at:min(at+16, len(kept)-4)]...)
	}
	return rest
}

// hurts are the nodes of a name's home that have been down, wiped or spoilt since all its files were whole; of those that are spoilt one byte is another.
type hurts struct {
	nodes  map[int]int
	spoilt map[int]int
}

// P9: while no more than m of its nodes have been hurt since all its files were whole, what was put or patched last is got.
func TestWhatWasPutIsGot(t *testing.T) {
	for i, x := range small() {
		t.Run(x.String(), func(t *testing.T) {
			t.Parallel()
			d := dice(800 + i)
			for range 8 {
				s, now := openStore(t, x.options(), x.count()+1), newestOf{}
				home := homeOf(t, s, "a")
				h := hurts{map[int]int{}, map[int]int{}}
				for range 100 {
					h.turn(t, &d, s, now, home)
					data, fault := s.Get("a")
					want, there := now["a"]
					if there != (fault == api.OK) || !there && fault != api.ErrNone || !bytes.Equal(data, want) {
						t.Fatalf("hurt: %v: Get: %x, %d, the newest is %x", h.nodes, data, fault, want)
					}
				}
			}
		})
	}
}

// turn: one more node is hurt, if one may be; or one that is hurt already is hurt again; or there is a writing, or all is made whole.
func (h *hurts) turn(t *testing.T, d *dice, s *Store, now newestOf, home []int) {
	t.Helper()
	node := oneOf(d, home...)
	_, known := h.nodes[node]
	mayHurt := known || len(h.nodes) < s.options.Parity
	switch act := d.next(9); {
	case act < 4 && mayHurt:
		h.nodes[node] = 1
		h.hurt(t, d, s, node, act)
	case act < 5:
		must(t, s.Up(node))
	case act < 6 && d.next(3) == 0:
		h.mend(t, s)
	default:
		was := s.writings
		now.write(t, d, s, "a")
		if s.writings > was {
			h.forget(s)
		}
	}
}

// forget: the files that were written anew are not spoilt any more.
func (h *hurts) forget(s *Store) {
	for node := range h.spoilt {
		if !s.nodes[node].down {
			delete(h.spoilt, node)
		}
	}
}

func (h *hurts) hurt(t *testing.T, d *dice, s *Store, node, act int) {
	t.Helper()
	switch act {
	case 0:
		must(t, s.Down(node))
	case 1:
		must(t, s.Wipe(node))
		delete(h.spoilt, node)
	default:
		kept, fault := s.File(node, "a")
		if _, twice := h.spoilt[node]; fault == api.OK && !twice {
			must(t, s.Spoil(node, "a", d.next(len(kept)), byte(1+d.next(255))))
			h.spoilt[node] = 1
		}
	}
}

// mend: all nodes are up, and all files whole.
func (h *hurts) mend(t *testing.T, s *Store) {
	t.Helper()
	for node := range s.nodes {
		must(t, s.Up(node))
	}
	if _, fault := s.Heal("a"); fault == api.OK {
		clear(h.nodes)
		clear(h.spoilt)
	}
}
