package stream

import (
	"bytes"
	"errors"
	"fmt"
	"math"
	"slices"
	"testing"

	"cullet/api"
	"cullet/engine"
	"cullet/pipes"
)

// What the tests hold the package against: models of sources, sinks and calls that follow the chapters' words over plain lists of bytes, and the calls of an engine in memory.

// feed is a source, and beside it what layer 22 says of its plan.
type feed struct {
	source *pipes.Source
	data   []byte
	plan   api.ReadPlan
	place  int
	turns  int
	given  int // the place when the call that was tried had answered
}

func newFeed(data []byte, plan api.ReadPlan) *feed {
	return &feed{source: pipes.NewSource(data, plan), data: data, plan: plan}
}

// read is P22.2.
func (f *feed) read(length int) ([]byte, error) {
	switch {
	case length == 0:
		return nil, nil
	case f.plan.FailAt >= 0 && f.place == f.plan.FailAt:
		return nil, f.source.Failure()
	case f.place == len(f.data):
		return nil, pipes.End
	}
	may := min(length, len(f.data)-f.place)
	if f.plan.FailAt >= 0 {
		may = min(may, f.plan.FailAt-f.place)
	}
	if n := len(f.plan.Chunks); n > 0 {
		may = max(0, min(may, f.plan.Chunks[f.turns%n]))
	}
	f.turns++
	f.place += may
	return f.data[f.place-may : f.place], nil
}

// full is P22.7.
func (f *feed) full(length int) ([]byte, error) {
	var all []byte
	for nothings := 0; len(all) < length; {
		given, err := f.read(length - len(all))
		all = append(all, given...)
		nothings++
		switch {
		case err != nil:
			return all, err
		case len(given) > 0:
			nothings = 0
		case nothings == 100:
			return all, api.ErrShort
		}
	}
	return all, nil
}

// drain is a sink, and beside it what layer 22 says that it holds.
type drain struct {
	sink  *pipes.Sink
	plan  api.WritePlan
	taken []byte
}

func newDrain(plan api.WritePlan) *drain { return &drain{sink: pipes.NewSink(plan), plan: plan} }

// put is P22.5, for P22.8 ends with the first failure.
func (d *drain) put(p []byte) error {
	if d.plan.FailAt >= 0 && d.plan.FailAt-len(d.taken) < len(p) {
		d.taken = append(d.taken, p[:d.plan.FailAt-len(d.taken)]...)
		return d.sink.Failure()
	}
	d.taken = append(d.taken, p...)
	return nil
}

func sourcesOf(feeds []*feed) []*pipes.Source {
	list := make([]*pipes.Source, len(feeds))
	for i, f := range feeds {
		if f != nil {
			list[i] = f.source
		}
	}
	return list
}

func sinksOf(drains []*drain) []*pipes.Sink {
	list := make([]*pipes.Sink, len(drains))
	for i, d := range drains {
		if d != nil {
			list[i] = d.sink
		}
	}
	return list
}

// settled: does each sink hold what its model holds, and has each source given as many bytes, in as many turns? (The turns are seen by what it gives next, so that nothing else can be done with the sources behind this.)
func settled(t *testing.T, what string, feeds []*feed, drains []*drain) {
	t.Helper()
	for i, d := range drains {
		if d != nil && !bytes.Equal(d.sink.Bytes(), d.taken) {
			t.Fatalf("%s: the sink %d holds %v, it is to be %v", what, i, d.sink.Bytes(), d.taken)
		}
	}
	for i, f := range feeds {
		if f == nil {
			continue
		}
		if f.source.Taken() != f.place {
			t.Fatalf("%s: %d bytes of the source %d were read, it is to be %d", what, f.source.Taken(), i, f.place)
		}
		f.given = f.place
		for range 2 * len(f.plan.Chunks) {
			p := make([]byte, 4)
			n, e := f.source.Read(p)
			given, err := f.read(4)
			if !bytes.Equal(p[:n], given) || e != err {
				t.Fatalf("%s: behind it the source %d gives %v, %v, it is to be %v, %v", what, i, p[:n], e, given, err)
			}
		}
	}
}

// setting: the parameters of a code.
type setting struct {
	f    api.Family
	k, m int
}

func (s setting) String() string { return fmt.Sprintf("family %d, %d + %d", s.f, s.k, s.m) }

func (s setting) isLong() bool { return s.f == api.Long }

func (s setting) count() int { return s.k + s.m }

func (s setting) width() int {
	if s.isLong() {
		return 2
	}
	return 1
}

func each(pairs [][2]int, families ...api.Family) []setting {
	var list []setting
	for _, p := range pairs {
		for _, f := range families {
			list = append(list, setting{f, p[0], p[1]})
		}
	}
	return list
}

func small() []setting {
	return each([][2]int{{1, 1}, {2, 1}, {1, 2}, {3, 2}, {2, 3}}, api.Vander, api.Cauchy, api.Long)
}

// middling: more shards.
func middling() []setting {
	list := each([][2]int{{10, 4}, {5, 9}}, api.Vander, api.Cauchy, api.Long)
	return append(list, setting{api.Vander, 128, 128}, setting{api.Cauchy, 255, 1}, setting{api.Long, 300, 17})
}

func made(t *testing.T, o api.Options) *engine.Engine {
	t.Helper()
	e, fault := engine.New(o)
	if e == nil || fault != api.OK {
		t.Fatalf("engine.New(%+v): %d", o, fault)
	}
	return e
}

// engines: of each backend one, with workers, stripes and schedules of several kinds.
func (s setting) engines(t *testing.T) []*engine.Engine {
	t.Helper()
	backends := []api.Backend{api.Table, api.Nibble, api.Sliced}
	if s.isLong() {
		backends = []api.Backend{api.Direct, api.Fast}
	}
	var list []*engine.Engine
	for i, b := range backends {
		o := []api.Options{{Workers: 2, Stripe: 3, Cache: 1}, {Workers: 3, Stripe: 1, Cache: 4, Scripted: true, Picks: []int{1, -1, 2, 0, 7}}, {Workers: 1, Stripe: 1 << 24, Cache: 1024}}[i]
		o.Family, o.Backend, o.Data, o.Parity = s.f, b, s.k, s.m
		list = append(list, made(t, o))
	}
	return list
}

func (s setting) engine(t *testing.T) *engine.Engine {
	t.Helper()
	return s.engines(t)[1]
}

// bench is a code with the engines that are tried, and one that works in memory, which they are held against.
type bench struct {
	setting
	tried  []*engine.Engine
	memory *engine.Engine
}

func newBench(t *testing.T, s setting) *bench {
	t.Helper()
	list := s.engines(t)
	return &bench{s, s.engines(t), list[len(list)-1]}
}

func benches(t *testing.T, settings []setting) []*bench {
	t.Helper()
	var list []*bench
	for _, s := range settings {
		list = append(list, newBench(t, s))
	}
	return list
}

// encoded: the data shards with their parity behind them.
func (b *bench) encoded(data [][]byte) [][]byte {
	shards := copies(data)
	for range b.m {
		shards = append(shards, make([]byte, len(data[0])))
	}
	if fault := b.memory.Encode(shards); fault != api.OK {
		panic(fault)
	}
	return shards
}

// restored: the shards with those that are empty given back.
func (b *bench) restored(shards [][]byte) [][]byte {
	list := slices.Clone(shards)
	if fault := b.memory.Reconstruct(list); fault != api.OK {
		panic(fault)
	}
	return list
}

func (b *bench) isCodeword(shards [][]byte) bool {
	good, fault := b.memory.Verify(shards)
	if fault != api.OK {
		panic(fault)
	}
	return good
}

// split is P24.1's second half: each byte of a shard by its place in the whole.
func (b *bench) split(block int, src *feed, dst []*drain, size int) error {
	length := size / b.k
	for b.k*length < size || length%b.width() != 0 {
		length++
	}
	for j, d := range dst {
		for from := 0; from < length; from += block {
			piece := make([]byte, min(block, length-from))
			asked := 0
			for i := range piece {
				if j*length+from+i < size {
					asked++
				}
			}
			given, err := src.full(asked)
			if err == pipes.End {
				err = api.ErrShort
			}
			if err != nil {
				return err
			}
			copy(piece, given)
			if err := d.put(piece); err != nil {
				return err
			}
		}
	}
	return nil
}

// join is P24.2's second half.
func (b *bench) join(block int, dst *drain, shards []*feed, size int) error {
	next := 0
	for left := size; left > 0; {
		if next == len(shards) {
			return api.ErrShort
		}
		given, err := shards[next].full(min(block, left))
		if err != nil && err != pipes.End {
			return err
		}
		if err := dst.put(given); err != nil {
			return err
		}
		left -= len(given)
		if err == pipes.End {
			next++
		}
	}
	return nil
}

// stopped is what a round's work answers that wants no further round.
var stopped = errors.New("stopped")

// rounds is P24.3.
func (b *bench) rounds(block int, feeds []*feed, work func(shards [][]byte) error) error {
	for round := 0; ; round++ {
		shards := make([][]byte, len(feeds))
		var lengths []int
		for i, f := range feeds {
			if f == nil {
				continue
			}
			given, err := f.full(block)
			if err != nil && err != pipes.End {
				return err
			}
			shards[i] = given
			lengths = append(lengths, len(given))
		}
		slices.Sort(lengths)
		lengths = slices.Compact(lengths)
		switch {
		case len(lengths) == 1 && lengths[0] == 0 && round == 0:
			return api.ErrEmpty
		case len(lengths) == 1 && lengths[0] == 0:
			return nil
		case len(lengths) > 1:
			return api.ErrUneven
		case lengths[0]%b.width() != 0:
			return api.ErrOdd
		}
		if err := work(shards); err != nil {
			return err
		}
		if lengths[0] < block {
			return nil
		}
	}
}

func putEach(drains []*drain, shards [][]byte) error {
	for i, d := range drains {
		if d == nil {
			continue
		}
		if err := d.put(shards[i]); err != nil {
			return err
		}
	}
	return nil
}

// encode is P24.4's second half.
func (b *bench) encode(block int, data []*feed, parity []*drain) error {
	return b.rounds(block, data, func(shards [][]byte) error { return putEach(parity, b.encoded(shards)[b.k:]) })
}

// verify is P24.5's second half.
func (b *bench) verify(block int, shards []*feed) (bool, error) {
	err := b.rounds(block, shards, func(shards [][]byte) error {
		if b.isCodeword(shards) {
			return nil
		}
		return stopped
	})
	if err == stopped {
		return false, nil
	}
	return err == nil, err
}

// reconstruct is P24.6's second half.
func (b *bench) reconstruct(block int, there []*feed, wanted []*drain) error {
	return b.rounds(block, there, func(shards [][]byte) error { return putEach(wanted, b.restored(shards)) })
}

// The tries: a call with a tried engine against the model, with all that is left of sources and sinks.

func (b *bench) trySplit(t *testing.T, what string, e *engine.Engine, block int, src *feed, dst []*drain, size int) error {
	t.Helper()
	err := Split(e, block, src.source, sinksOf(dst), size)
	if want := b.split(block, src, dst, size); err != want {
		t.Fatalf("%s: %v, it is to be %v", what, err, want)
	}
	settled(t, what, []*feed{src}, dst)
	return err
}

func (b *bench) tryJoin(t *testing.T, what string, e *engine.Engine, block int, dst *drain, shards []*feed, size int) error {
	t.Helper()
	err := Join(e, block, dst.sink, sourcesOf(shards), size)
	if want := b.join(block, dst, shards, size); err != want {
		t.Fatalf("%s: %v, it is to be %v", what, err, want)
	}
	settled(t, what, shards, []*drain{dst})
	return err
}

func (b *bench) tryEncode(t *testing.T, what string, e *engine.Engine, block int, data []*feed, parity []*drain) error {
	t.Helper()
	err := Encode(e, block, sourcesOf(data), sinksOf(parity))
	if want := b.encode(block, data, parity); err != want {
		t.Fatalf("%s: %v, it is to be %v", what, err, want)
	}
	settled(t, what, data, parity)
	return err
}

func (b *bench) tryVerify(t *testing.T, what string, e *engine.Engine, block int, shards []*feed) (bool, error) {
	t.Helper()
	good, err := Verify(e, block, sourcesOf(shards))
	wantGood, want := b.verify(block, shards)
	if good != wantGood || err != want {
		t.Fatalf("%s: %v, %v, it is to be %v, %v", what, good, err, wantGood, want)
	}
	settled(t, what, shards, nil)
	return good, err
}

func (b *bench) tryReconstruct(t *testing.T, what string, e *engine.Engine, block int, there []*feed, wanted []*drain) error {
	t.Helper()
	err := Reconstruct(e, block, sourcesOf(there), sinksOf(wanted))
	if want := b.reconstruct(block, there, wanted); err != want {
		t.Fatalf("%s: %v, it is to be %v", what, err, want)
	}
	settled(t, what, there, wanted)
	return err
}

// dice: numbers that look like no pattern.
type dice uint64

func (d *dice) next(n int) int {
	*d = *d*6364136223846793005 + 1442695040888963407
	return int(uint64(*d)>>33) % n
}

func (d *dice) bytes(n int) []byte {
	list := make([]byte, n)
	for i := range list {
		list[i] = byte(d.next(256))
	}
	return list
}

func (d *dice) shards(count, length int) [][]byte {
	var list [][]byte
	for range count {
		list = append(list, d.bytes(length))
	}
	return list
}

// oneOf: a number of the list.
func (d *dice) oneOf(list ...int) int { return list[d.next(len(list))] }

// chunks: those of a source that some day gives something.
func (d *dice) chunks() []int {
	return [][]int{nil, {1}, {2, 0}, {1, 2, 0, -3}, {7}, {0, 0, 3, 1}, {5, 1 << 40}, {100}}[d.next(8)]
}

// feed: of these bytes, in any chunks, without a break.
func (d *dice) feed(data []byte) *feed {
	return newFeed(data, api.ReadPlan{Chunks: d.chunks(), FailAt: -1 - d.next(3), Code: d.next(9)})
}

func (d *dice) feeds(shards [][]byte) []*feed {
	var list []*feed
	for _, shard := range shards {
		list = append(list, d.feed(shard))
	}
	return list
}

// brittle: of these bytes; now and then it breaks, is cut or lengthened, or comes to nothing a hundred times.
func (d *dice) brittle(data []byte) *feed {
	plan := api.ReadPlan{Chunks: d.chunks(), FailAt: -1, Code: d.next(9)}
	switch d.next(24) {
	case 0, 1:
		plan.FailAt = d.next(len(data) + 3)
	case 2:
		data = data[:d.next(len(data)+1)]
	case 3:
		data = append(bytes.Clone(data), d.bytes(1+d.next(4))...)
	case 4:
		plan.Chunks = append(slices.Repeat([]int{0}, 98+d.next(4)), 1+d.next(9))
	case 5:
		plan.Chunks = append(slices.Repeat([]int{1}, d.next(30)), slices.Repeat([]int{0}, 99+d.next(2))...)
		plan.Chunks = append(plan.Chunks, 3)
	}
	return newFeed(data, plan)
}

func (d *dice) brittles(shards [][]byte) []*feed {
	var list []*feed
	for _, shard := range shards {
		list = append(list, d.brittle(shard))
	}
	return list
}

// emptyFeeds: so many, of no bytes.
func emptyFeeds(count int) []*feed {
	var list []*feed
	for range count {
		list = append(list, newFeed(nil, api.ReadPlan{FailAt: -1}))
	}
	return list
}

// drains: so many, of which now and then one breaks within its first bytes.
func (d *dice) drains(count, length int) []*drain {
	list := openDrains(count)
	for i := range list {
		if d.next(12) == 0 {
			list[i] = newDrain(api.WritePlan{FailAt: d.next(length + 2), Code: d.next(9)})
		}
	}
	return list
}

// openDrains: they take everything.
func openDrains(count int) []*drain {
	list := make([]*drain, count)
	for i := range list {
		list[i] = newDrain(api.WritePlan{FailAt: -1 - i})
	}
	return list
}

func openSinks(count int) []*pipes.Sink { return sinksOf(openDrains(count)) }

// plainSources: one for each list, that gives as much as is asked for.
func plainSources(lists ...[]byte) []*pipes.Source {
	var all []*pipes.Source
	for _, list := range lists {
		all = append(all, pipes.NewSource(list, api.ReadPlan{FailAt: -1}))
	}
	return all
}

func held(sinks []*pipes.Sink) [][]byte {
	var lists [][]byte
	for _, s := range sinks {
		lists = append(lists, s.Bytes())
	}
	return lists
}

func copies(lists [][]byte) [][]byte {
	all := make([][]byte, len(lists))
	for i, list := range lists {
		all[i] = bytes.Clone(list)
	}
	return all
}

func alike(a, b [][]byte) bool { return slices.EqualFunc(a, b, bytes.Equal) }

// countLists calls with each list of n numbers below base.
func countLists(n, base int, with func(list []int)) {
	list := make([]int, n)
	for {
		with(slices.Clone(list))
		at := 0
		for at < n && list[at] == base-1 {
			list[at] = 0
			at++
		}
		if at == n {
			return
		}
		list[at]++
	}
}

// endsQuietly: the call ends, and doesn't panic.
func endsQuietly(t *testing.T, name string, run func()) {
	t.Helper()
	defer func() {
		if p := recover(); p != nil {
			t.Errorf("%s panics: %v", name, p)
		}
	}()
	run()
}

// question: an error, and whether it is to be told.
type question struct {
	err error
	yes bool
}

// firstOf: the error of the first question whose answer is yes; nil where there is none.
func firstOf(list ...question) error {
	for _, q := range list {
		if q.yes {
			return q.err
		}
	}
	return nil
}

// takes: is it a block for this code?
func (s setting) takes(block int) bool {
	return block >= 1 && block <= 1<<20 && block <= (1<<26)/s.count() && block%s.width() == 0
}

// someBlocks: those about the limits, and some far off.
func (s setting) someBlocks() []int {
	list := []int{math.MinInt, -1 << 40, -2, -1, 0, 1, 2, 3, 1 << 20, 1<<20 + 1, 1<<20 + 2, 1 << 40, 1 << 60, math.MaxInt - 1, math.MaxInt}
	for n := -2; n <= 2; n++ {
		list = append(list, (1<<26)/s.count()+n)
	}
	return list
}
