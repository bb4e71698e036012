package polys

import (
	"fmt"
	"math"
	"slices"
	"testing"

	"cullet/api"
)

// What holds for all calls: P1, P8, the rules of the document, and the chapter's sections 'Types', 'Errors' and 'Limits'.

// outcome: all that a call answers, lists and numbers apart.
type outcome[E uint8 | uint16] struct {
	lists  [][]E
	number int
	e      api.Errno
}

func (o outcome[E]) equal(p outcome[E]) bool {
	return o.number == p.number && o.e == p.e && slices.EqualFunc(o.lists, p.lists, func(x, y []E) bool { return slices.Equal(x, y) })
}

// copied: an outcome in memory of its own, its lists' spare room gone.
func (o outcome[E]) copied() outcome[E] {
	p := outcome[E]{number: o.number, e: o.e}
	for _, list := range o.lists {
		p.lists = append(p.lists, append([]E{}, list...))
	}
	return p
}

// whole: the lists with their spare room.
func (o outcome[E]) whole() outcome[E] {
	p := outcome[E]{number: o.number, e: o.e}
	for _, list := range o.lists {
		p.lists = append(p.lists, list[:cap(list)])
	}
	return p
}

// empty: no list has an element, and the number is 0.
func (o outcome[E]) empty() bool {
	return o.number == 0 && !slices.ContainsFunc(o.lists, func(list []E) bool { return len(list) > 0 })
}

// call: one of the ring's calls over two lists, of which some take the first alone; named.
type call[E uint8 | uint16] struct {
	name string
	errs bool // it has an error
	two  bool // it takes both lists
	run  func(r *Ring[E], f, g []E) outcome[E]
}

func everyCall[E uint8 | uint16]() []call[E] {
	one := func(list []E) outcome[E] { return outcome[E]{lists: [][]E{list}} }
	orError := func(list []E, e api.Errno) outcome[E] { return outcome[E]{lists: [][]E{list}, e: e} }
	partial := func(d int) func(r *Ring[E], f, g []E) outcome[E] {
		return func(r *Ring[E], f, g []E) outcome[E] {
			m, u, v, e := r.Partial(f, g, d)
			return outcome[E]{lists: [][]E{m, u, v}, e: e}
		}
	}
	return []call[E]{
		{"Trim", false, false, func(r *Ring[E], f, g []E) outcome[E] { return one(r.Trim(f)) }},
		{"Degree", false, false, func(r *Ring[E], f, g []E) outcome[E] { return outcome[E]{number: r.Degree(f)} }},
		{"Add", false, true, func(r *Ring[E], f, g []E) outcome[E] { return one(r.Add(f, g)) }},
		{"Eval", false, false, func(r *Ring[E], f, g []E) outcome[E] { return outcome[E]{number: int(r.Eval(f, 3))} }},
		{"Derivative", false, false, func(r *Ring[E], f, g []E) outcome[E] { return one(r.Derivative(f)) }},
		{"Mul", true, true, func(r *Ring[E], f, g []E) outcome[E] { return orError(r.Mul(f, g)) }},
		{"DivMod", true, true, func(r *Ring[E], f, g []E) outcome[E] {
			q, m, e := r.DivMod(f, g)
			return outcome[E]{lists: [][]E{q, m}, e: e}
		}},
		{"Gcd", true, true, func(r *Ring[E], f, g []E) outcome[E] { return orError(r.Gcd(f, g)) }},
		{"Vanishing", true, false, func(r *Ring[E], f, g []E) outcome[E] { return orError(r.Vanishing(f)) }},
		{"Interpolate", true, true, func(r *Ring[E], f, g []E) outcome[E] { return orError(r.Interpolate(f, g)) }},
		{"Partial at 0", true, true, partial(0)},
		{"Partial at 2", true, true, partial(2)},
		{"Partial at 1024", true, true, partial(1024)},
		{"Partial at -1", true, true, partial(-1)},
		{"Partial at the least int", true, true, partial(math.MinInt)},
	}
}

// everyList: ordinary lists and the edges; the last two are too long for the calls with an error.
func everyList[E uint8 | uint16]() [][]E {
	d := dice(15)
	return append(zeros[E](), []E{1}, []E{0, 1}, []E{5, 0, 0}, []E{1, 2, 3, 4}, []E{3, 1, 4, 0}, []E{7, 6, 5, 4}, full[E](&d, 1024), tailed([]E{9, 8}, 1022), make([]E, 1025), full[E](&d, 1025))
}

func TestNilRing(t *testing.T) {
	nilRing[uint8](t)
	nilRing[uint16](t)
}

// nilRing: the zero value, and ErrNil ahead of every other error; a zero struct's calls end.
func nilRing[E uint8 | uint16](t *testing.T) {
	for _, c := range everyCall[E]() {
		want := api.OK
		if c.errs {
			want = api.ErrNil
		}
		for _, f := range everyList[E]() {
			for _, g := range everyList[E]() {
				if o := c.run(nil, f, g); !o.empty() || o.e != want {
					t.Errorf("%s of a nil ring, %x and %x: %v", c.name, short(f), short(g), o)
				}
				c.run(&Ring[E]{}, f, g)
			}
		}
	}
}

func TestErrSize(t *testing.T) {
	tooLong(t, book8())
	tooLong(t, book16())
}

// tooLong: a list of 1025 at each place, whatever it and the other list hold; and no error at 1024 that speaks of length.
func tooLong[E uint8 | uint16](t *testing.T, b book[E]) {
	for _, c := range everyCall[E]() {
		for _, f := range everyList[E]() {
			for _, g := range everyList[E]() {
				long := c.errs && (len(f) > 1024 || c.two && len(g) > 1024)
				o := c.run(b.ring, f, g)
				if (o.e == api.ErrSize) != long {
					t.Errorf("%s: %s of %d and %d elements: error %d", b.name, c.name, len(f), len(g), o.e)
				}
				if o.e != api.OK && !o.empty() {
					t.Errorf("%s: %s of %x and %x: error %d, and %v beside it", b.name, c.name, short(f), short(g), o.e, o)
				}
			}
		}
	}
}

func TestOrderOfErrors(t *testing.T) {
	errorOrder(t, book8())
	errorOrder(t, book16())
}

func errorOrder[E uint8 | uint16](t *testing.T, b book[E]) {
	long, zero := make([]E, 1025), make([]E, 1024)
	for _, c := range []struct {
		call string
		r    *Ring[E]
		f, g []E
		want api.Errno
	}{
		{"Partial at -1", nil, long, long, api.ErrNil}, {"DivMod", nil, long, nil, api.ErrNil}, {"Interpolate", nil, long, nil, api.ErrNil},
		{"DivMod", nil, []E{1}, nil, api.ErrNil}, {"Interpolate", nil, []E{1, 1}, []E{1}, api.ErrNil}, {"Interpolate", nil, []E{1, 1}, []E{1, 1}, api.ErrNil},
		{"Partial at -1", nil, nil, nil, api.ErrNil}, {"Mul", nil, long, nil, api.ErrNil}, {"Gcd", nil, nil, long, api.ErrNil}, {"Vanishing", nil, long, nil, api.ErrNil},
		{"Partial at -1", b.ring, long, nil, api.ErrSize}, {"Partial at -1", b.ring, nil, long, api.ErrSize}, {"Partial at the least int", b.ring, nil, long, api.ErrSize},
		{"DivMod", b.ring, long, nil, api.ErrSize}, {"DivMod", b.ring, nil, long, api.ErrSize}, {"DivMod", b.ring, long, zero, api.ErrSize},
		{"Interpolate", b.ring, long, nil, api.ErrSize}, {"Interpolate", b.ring, nil, long, api.ErrSize}, {"Interpolate", b.ring, long, long, api.ErrSize},
		{"Interpolate", b.ring, zero, long, api.ErrSize}, {"Interpolate", b.ring, zero, zero[:1023], api.ErrLens}, {"Interpolate", b.ring, zero, zero, api.ErrTwice},
		{"Partial at -1", b.ring, nil, nil, api.ErrRange}, {"Partial at -1", b.ring, []E{1}, []E{0, 1}, api.ErrRange}, {"Partial at the least int", b.ring, zero, zero, api.ErrRange},
		{"DivMod", b.ring, zero, zero, api.ErrZeroPoly}, {"DivMod", b.ring, []E{1}, nil, api.ErrZeroPoly},
	} {
		calls := everyCall[E]()
		i := slices.IndexFunc(calls, func(x call[E]) bool { return x.name == c.call })
		if o := calls[i].run(c.r, c.f, c.g); o.e != c.want || !o.empty() {
			t.Errorf("%s: %s of %d and %d elements: %v, want error %d", b.name, c.call, len(c.f), len(c.g), o, c.want)
		}
	}
}

// guard: what stands in a list's spare room.
const guard = 0xA5

// guarded: f with spare room, and the whole of its memory.
func guarded[E uint8 | uint16](f []E) (list, memory []E) {
	memory = append(append([]E{}, f...), slices.Repeat([]E{guard}, 9)...)
	return memory[:len(f)], memory
}

// scribble writes over a list and its spare room.
func scribble[E uint8 | uint16](list []E) {
	list = list[:cap(list)]
	for i := range list {
		list[i] = ^list[i]
	}
}

func TestMemory(t *testing.T) {
	memoryRules(t, book8())
	memoryRules(t, book16())
}

func memoryRules[E uint8 | uint16](t *testing.T, b book[E]) {
	for _, c := range everyCall[E]() {
		for _, f := range everyList[E]() {
			for _, g := range everyList[E]() {
				if len(f) > 1000 && len(g) > 1000 {
					continue // for the sake of time: each long list meets all short ones
				}
				b.memoryOf(t, c, f, g)
			}
		}
		b.memoryOf(t, c, []E{0, 0, 0, 7}, []E{0, 1, 5})
		b.memoryOf(t, c, []E{0, 1, 2, 3}, []E{4, 5, 6, 7})
	}
}

// memoryOf: no argument is written to, its spare room neither; no answer shares memory with an argument or with another one; nothing of it is kept.
func (b book[E]) memoryOf(t *testing.T, c call[E], f, g []E) {
	t.Helper()
	what := fmt.Sprintf("%s: %s of %x and %x", b.name, c.name, short(f), short(g))
	first, firstMemory := guarded(f)
	second, secondMemory := guarded(g)
	_, wantFirst := guarded(f)
	_, wantSecond := guarded(g)
	unchanged := func(when string) {
		t.Helper()
		if !slices.Equal(firstMemory, wantFirst) || !slices.Equal(secondMemory, wantSecond) {
			t.Errorf("%s: an argument is changed %s", what, when)
		}
	}
	o := c.run(b.ring, first, second)
	unchanged("by the call")
	want := o.copied()
	memory := o.whole().copied()
	for i, list := range o.lists {
		scribble(list)
		unchanged("by writing to an answer")
		for j, other := range o.whole().lists {
			if j != i && !slices.Equal(other, memory.lists[j]) {
				t.Errorf("%s: answers %d and %d share memory", what, i, j)
			}
		}
		scribble(list)
	}
	scribble(first)
	scribble(second)
	if !o.equal(want) {
		t.Errorf("%s: an answer shares memory with an argument", what)
	}
	for _, list := range o.lists {
		scribble(list)
	}
	if again := c.run(b.ring, f, g); !again.equal(want) {
		t.Errorf("%s: %v, and the same call again: %v", what, want, again)
	}
}

func TestNothingIsKept(t *testing.T) {
	nothingKept(t, Over8)
	nothingKept(t, Over16)
}

// nothingKept: each call on a ring that has answered all others answers what it answers on a fresh one.
func nothingKept[E uint8 | uint16](t *testing.T, maker func() *Ring[E]) {
	lists := [][]E{nil, {1}, {0, 1, 0}, {1, 2, 3, 4}, {7, 6, 5, 4}, make([]E, 1025)}
	used, fresh := maker(), maker()
	var want []outcome[E]
	for _, c := range everyCall[E]() {
		for _, f := range lists {
			want = append(want, c.run(fresh, f, lists[3]).copied())
			for _, other := range everyCall[E]() {
				other.run(used, lists[4], f)
			}
			if o := c.run(used, f, lists[3]); !o.equal(want[len(want)-1]) {
				t.Errorf("%s of %x: %v on a ring that was used, %v on a fresh one", c.name, short(f), o, want[len(want)-1])
			}
		}
	}
}

func TestNumberOfProducts(t *testing.T) {
	productCount(t, Over8())
	productCount(t, Over16())
}

// productCount: at most a few times 1024 * 1024 products and inverses in a call with an error, one for each coefficient in the others.
func productCount[E uint8 | uint16](t *testing.T, r *Ring[E]) {
	count := 0
	product, inverse := r.product, r.inverse
	r.product = func(a, b E) E { count++; return product(a, b) }
	r.inverse = func(a E) (E, api.Errno) { count++; return inverse(a) }
	d := dice(16)
	points := make([]E, 1024)
	for i := range points {
		points[i] = E(i)
	}
	for _, c := range everyCall[E]() {
		for _, pair := range [][2][]E{{full[E](&d, 1024), full[E](&d, 1024)}, {full[E](&d, 1024), full[E](&d, 512)}, {points, full[E](&d, 1024)}} {
			most := 1024
			if c.errs {
				most = 4 * 1024 * 1024
			}
			count = 0
			c.run(r, pair[0], pair[1])
			if count > most {
				t.Errorf("%s of %d and %d elements: %d products", c.name, len(pair[0]), len(pair[1]), count)
			}
		}
	}
}
