package shape

import (
	"bytes"
	"fmt"
	"math"
	"slices"
	"sync"
	"testing"

	"cullet/api"
)

// What holds for all calls: P1, P8 and the document's rules.

// input: what the calls are given; each takes its part.
type input struct {
	setting
	b             api.Backend
	n             int
	shards, fresh [][]byte
	data          []byte
}

// outcome: all that a call answers.
type outcome struct {
	number int
	list   []int
	shards [][]byte
	data   []byte
	e      api.Errno
}

type call struct {
	name string
	run  func(in input) outcome
}

func everyCall() []call {
	return []call{
		{"Pow2", func(in input) outcome { n, e := Pow2(in.n); return outcome{number: n, e: e} }},
		{"Params", func(in input) outcome { return outcome{e: Params(in.f, in.k, in.m)} }},
		{"Uses", func(in input) outcome { return outcome{e: Uses(in.f, in.b)} }},
		{"Whole", func(in input) outcome { n, e := Whole(in.f, in.k, in.m, in.shards); return outcome{number: n, e: e} }},
		{"Partial", func(in input) outcome {
			n, list, e := Partial(in.f, in.k, in.m, in.shards)
			return outcome{number: n, list: list, e: e}
		}},
		{"Fresh", func(in input) outcome {
			n, list, e := Fresh(in.f, in.k, in.m, in.shards, in.fresh)
			return outcome{number: n, list: list, e: e}
		}},
		{"Length", func(in input) outcome { n, e := Length(in.f, in.k, in.m, in.n); return outcome{number: n, e: e} }},
		{"Split", func(in input) outcome {
			shards, e := Split(in.f, in.k, in.m, in.data)
			return outcome{shards: shards, e: e}
		}},
		{"Join", func(in input) outcome {
			data, e := Join(in.f, in.k, in.m, in.shards, in.n)
			return outcome{data: data, e: e}
		}},
	}
}

// inputs: such as the calls take, and some that they refuse.
func inputs() []input {
	d := dice(30)
	return []input{
		{setting{api.Vander, 2, 1}, api.Table, 5, shardsOf(3, 3, 3), shardsOf(0, 3), d.bytes(6)},
		{setting{api.Cauchy, 2, 2}, api.Sliced, 2, shardsOf(3, 0, 3, 0), shardsOf(0, 0), d.bytes(7)},
		{setting{api.Long, 3, 2}, api.Fast, 12, shardsOf(4, 4, 4, 4, 4), shardsOf(4, 0, 4), d.bytes(11)},
		{setting{api.Long, 3, 2}, api.Direct, 12, shardsOf(4, 4, 4, 0, 0), shardsOf(0, 0, 0), d.bytes(1)},
		{setting{api.Cauchy, 60, 40}, api.Nibble, 500, shardsOf(slices.Repeat([]int{9}, 100)...), shardsOf(slices.Repeat([]int{9}, 60)...), d.bytes(1000)},
		{setting{api.Vander, 2, 1}, api.Fast, -1, shardsOf(3, 0, 4), shardsOf(0, 3), nil},
		{setting{api.Long, 2, 1}, api.Table, 4, shardsOf(3, 3, 3), shardsOf(3, 0), d.bytes(3)},
		{setting{api.Vander, 2, 1}, 5, 0, shardsOf(0, 0, 3), shardsOf(3, 3), d.bytes(2)},
		{setting{api.Vander, 2, 1}, -1, 7, shardsOf(3, 3, 3), shardsOf(2, 0), d.bytes(2)},
		{setting{api.Vander, 2, 1}, api.Table, math.MaxInt, shardsOf(3, 3), shardsOf(3, 3), nil},
		{setting{api.Cauchy, 2, 1}, api.Table, math.MinInt, shardsOf(0, 0, 0), nil, nil},
		{setting{api.Cauchy, 2, 1}, api.Table, 1, nil, nil, nil},
		{setting{api.Long, 1, 32768}, api.Fast, 65537, shardsOf(2), shardsOf(2), d.bytes(2048)},
		{setting{api.Vander, 0, 1}, api.Table, 1, shardsOf(1), nil, d.bytes(1)},
		{setting{api.Long, math.MaxInt, math.MaxInt}, api.Direct, 1 << 40, shardsOf(1, 2), shardsOf(1), d.bytes(1)},
		{setting{3, 2, 1}, api.Table, 1, shardsOf(1, 1, 1), shardsOf(1, 1), d.bytes(1)},
		{setting{math.MinInt, 0, 0}, math.MinInt, 1<<40 + 1, shardsOf(0), shardsOf(0), nil},
	}
}

func copies(shards [][]byte) [][]byte {
	var all [][]byte
	for _, shard := range shards {
		all = append(all, slices.Clone(shard))
	}
	return all
}

func (in input) copied() input {
	in.shards, in.fresh, in.data = copies(in.shards), copies(in.fresh), slices.Clone(in.data)
	return in
}

func (in input) equal(other input) bool {
	return sameShards(in.shards, other.shards) && sameShards(in.fresh, other.fresh) && bytes.Equal(in.data, other.data)
}

func (in input) String() string {
	return fmt.Sprintf("%v, backend %d, %d, lengths %d, fresh %d, %d bytes", in.setting, in.b, in.n, lengths(in.shards), lengths(in.fresh), len(in.data))
}

func (o outcome) copied() outcome {
	o.list, o.shards, o.data = slices.Clone(o.list), copies(o.shards), slices.Clone(o.data)
	return o
}

func (o outcome) equal(other outcome) bool {
	return o.number == other.number && slices.Equal(o.list, other.list) && sameShards(o.shards, other.shards) && bytes.Equal(o.data, other.data) && o.e == other.e
}

func (o outcome) empty() bool {
	return o.number == 0 && len(o.list) == 0 && len(o.shards) == 0 && len(o.data) == 0
}

// spoil writes over all that a list holds, its spare room too.
func spoil[E any](list []E, with E) {
	list = list[:cap(list)]
	for i := range list {
		list[i] = with
	}
}

func spoilShards(shards [][]byte) {
	for _, shard := range shards {
		spoil(shard, 0xA5)
	}
	spoil(shards, []byte{1, 2, 3, 4, 5, 6, 7})
}

func (o outcome) spoil() {
	spoil(o.list, -7)
	spoilShards(o.shards)
	spoil(o.data, 0xA5)
}

func (in input) spoil() {
	spoilShards(in.shards)
	spoilShards(in.fresh)
	spoil(in.data, 0xA5)
}

// laid: the list amid others; and all of these.
func laid[E any](list []E, other E) (middle, all []E) {
	all = slices.Concat(slices.Repeat([]E{other}, 5), list, slices.Repeat([]E{other}, 70))
	return all[5 : 5+len(list)], all
}

// laidShards: each shard amid other bytes, and the list of them amid other shards; and all of these.
func laidShards(shards [][]byte) (middle [][]byte, all [][][]byte) {
	var inner, outer [][]byte
	for _, shard := range shards {
		part, wide := laid(shard, 21)
		inner, outer = append(inner, part), append(outer, wide)
	}
	middle, list := laid(inner, []byte{9, 8})
	return middle, [][][]byte{list, outer}
}

func TestNothingBesideAnError(t *testing.T) {
	refused := 0
	for _, c := range everyCall() {
		for _, in := range inputs() {
			o := c.run(in)
			if o.e == api.OK {
				continue
			}
			refused++
			if !o.empty() {
				t.Errorf("%s of %v: the error %d, and more", c.name, in, o.e)
			}
		}
	}
	if refused < 60 {
		t.Errorf("only %d of the calls were refused", refused)
	}
}

// Nothing that is handed in is changed: no entry, no byte, no spare room.
func TestNothingHandedInIsChanged(t *testing.T) {
	for _, c := range everyCall() {
		for _, in := range inputs() {
			want := c.run(in.copied())
			amid := in
			var data []byte
			var shards, fresh [][][]byte
			amid.data, data = laid(in.data, 21)
			amid.shards, shards = laidShards(in.shards)
			amid.fresh, fresh = laidShards(in.fresh)
			was := [][][]byte{copies(shards[0]), copies(shards[1]), copies(fresh[0]), copies(fresh[1]), {slices.Clone(data)}}
			if o := c.run(amid); !o.equal(want) {
				t.Errorf("%s of %v: another answer where there is spare room", c.name, in)
			}
			for i, have := range [][][]byte{shards[0], shards[1], fresh[0], fresh[1], {data}} {
				if !sameShards(have, was[i]) {
					t.Errorf("%s of %v has changed a list, or what lies about it", c.name, in)
				}
			}
		}
	}
}

// What is answered is new memory: written over, neither what was handed in nor another answer is changed; and what was handed in, written over, changes no answer.
func TestAnswersShareNothing(t *testing.T) {
	for _, c := range everyCall() {
		for _, was := range inputs() {
			in := was.copied()
			first, second := c.run(in), c.run(in)
			want := first.copied()
			if !second.equal(want) {
				t.Errorf("%s of %v answers otherwise at the second time", c.name, was)
			}
			first.spoil()
			if !in.equal(was) {
				t.Errorf("%s of %v: the answer shares memory with what was handed in", c.name, was)
			}
			if !second.equal(want) || !c.run(in).equal(want) {
				t.Errorf("%s of %v: two answers share memory", c.name, was)
			}
			in.spoil()
			if !second.equal(want) {
				t.Errorf("%s of %v: the answer hangs on what was handed in", c.name, was)
			}
		}
	}
}

// Nil and empty are one, of lists and of the shards in them.
func TestNilAndEmpty(t *testing.T) {
	room := []byte{1, 2, 3}
	for _, c := range everyCall() {
		for _, in := range inputs() {
			bare, empty := in.copied(), in.copied()
			for _, lists := range [][2][][]byte{{bare.shards, empty.shards}, {bare.fresh, empty.fresh}} {
				for i := range lists[0] {
					if len(lists[0][i]) == 0 {
						lists[0][i], lists[1][i] = nil, room[:0]
					}
				}
			}
			if len(in.shards) == 0 {
				bare.shards, empty.shards = nil, [][]byte{room}[:0]
			}
			if len(in.fresh) == 0 {
				bare.fresh, empty.fresh = nil, [][]byte{room}[:0]
			}
			if len(in.data) == 0 {
				bare.data, empty.data = nil, room[:0]
			}
			if !c.run(bare).equal(c.run(empty)) {
				t.Errorf("%s of %v tells nil and empty apart", c.name, in)
			}
		}
	}
}

// But for Split and Join, what the bytes are makes no difference.
func TestBytesAreNotLookedAt(t *testing.T) {
	for _, c := range everyCall() {
		if c.name == "Split" || c.name == "Join" {
			continue
		}
		for _, in := range inputs() {
			other := in.copied()
			for _, shard := range slices.Concat(other.shards, other.fresh) {
				clear(shard)
			}
			if !c.run(other).equal(c.run(in)) {
				t.Errorf("%s of %v answers otherwise of zeros", c.name, in)
			}
		}
	}
}

// What a call answers doesn't hang on the calls ahead of it, whether they were refused or not.
func TestNothingIsKept(t *testing.T) {
	var want []outcome
	calls, list := everyCall(), inputs()
	for _, c := range calls {
		for _, in := range list {
			want = append(want, c.run(in))
		}
	}
	slices.Reverse(calls)
	slices.Reverse(list)
	for range 2 {
		at := len(want)
		for _, c := range calls {
			for _, in := range list {
				at--
				if o := c.run(in); !o.equal(want[at]) {
					t.Errorf("%s of %v answers otherwise behind other calls", c.name, in)
				}
			}
		}
	}
}

// Since nothing is kept and lists are read alone, calls over the same lists may go on at one time.
func TestCallsInCompany(t *testing.T) {
	list := inputs()
	var group sync.WaitGroup
	for _, c := range everyCall() {
		for range 2 {
			group.Go(func() {
				for _, in := range list {
					if o := c.run(in); !o.equal(c.run(in.copied())) {
						t.Errorf("%s in company: another answer", c.name)
					}
				}
			})
		}
	}
	group.Wait()
}

// Shards that share memory with one another: the calls end, and lengths are lengths.
func TestSharedShards(t *testing.T) {
	one := []byte{1, 2, 3, 4}
	shards := [][]byte{one, one, one}
	if length, e := Whole(api.Long, 2, 1, shards); length != 4 || e != api.OK {
		t.Errorf("Whole = %d, %d", length, e)
	}
	if length, missing, e := Partial(api.Long, 2, 1, shards); length != 4 || len(missing) != 0 || e != api.OK {
		t.Errorf("Partial = %d, %d, %d", length, missing, e)
	}
	if length, turned, e := Fresh(api.Long, 2, 1, shards, shards[:2]); length != 4 || !slices.Equal(turned, []int{0, 1}) || e != api.OK {
		t.Errorf("Fresh = %d, %d, %d", length, turned, e)
	}
	if data, e := Join(api.Long, 2, 1, shards, 7); !bytes.Equal(data, []byte{1, 2, 3, 4, 1, 2, 3}) || e != api.OK {
		t.Errorf("Join = %v, %d", data, e)
	}
}
