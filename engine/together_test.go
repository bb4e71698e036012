package engine

import (
	"math"
	"math/big"
	"slices"
	"testing"

	"cullet/api"
)

// P23.8. The order in which the calls use the cache, and do their spans (spans_test.go), is held against a model that plays the chapter's words by itself, without goroutines; what they answer and write, against each call made alone on another engine.

// seat is a call of the model.
type seat struct {
	waits  string // "beginning", "lock", "unlock", "step", "ended"
	number int
	key    []int
	spans  []api.Span // those that are not done
}

// played: the keys that the calls use, and the spans that they do, each in the order of the turns.
func (s setting) played(picks []int, calls []api.Call, stripe int) (uses [][]int, spans []done) {
	seats := make([]seat, len(calls))
	for i, call := range calls {
		seats[i] = seat{"beginning", i, s.usedBy(call), nil}
		if s.errorOf(call) == api.OK {
			seats[i].spans = s.cut(call, stripe)
		}
	}
	held := false
	for decision := 0; ; decision++ {
		var can []*seat
		for i := range seats {
			if seats[i].waits != "ended" && !(seats[i].waits == "lock" && held) {
				can = append(can, &seats[i])
			}
		}
		if len(can) == 0 {
			return uses, spans
		}
		pick := 0
		if decision < len(picks) {
			pick = picks[decision]
		}
		chosen := can[euclid(pick, len(can))]
		switch chosen.waits {
		case "beginning":
			chosen.waits = chosen.next()
			if len(chosen.key) > 0 {
				chosen.waits = "lock"
			}
		case "lock":
			held, chosen.waits = true, "unlock"
			uses = append(uses, chosen.key)
		case "unlock":
			held, chosen.waits = false, chosen.next()
		case "step":
			spans = append(spans, done{chosen.number, chosen.spans[0]})
			chosen.spans = chosen.spans[1:]
			chosen.waits = chosen.next()
		}
	}
}

// next: where a call waits that has nothing to do with the lock.
func (s *seat) next() string {
	if len(s.spans) == 0 {
		return "ended"
	}
	return "step"
}

// euclid: p mod n by big numbers, whose remainder is never below 0.
func euclid(p, n int) int {
	return int(new(big.Int).Mod(big.NewInt(int64(p)), big.NewInt(int64(n))).Int64())
}

func copyCalls(calls []api.Call) []api.Call {
	list := slices.Clone(calls)
	for i := range list {
		list[i].Shards, list[i].Fresh = copies(list[i].Shards), copies(list[i].Fresh)
	}
	return list
}

// checkTogether: on a new engine, whose cache has been used already.
func checkTogether(t *testing.T, o api.Options, picks []int, calls []api.Call) {
	t.Helper()
	s := setting{o.Family, o.Data, o.Parity}
	e, model := made(t, o), &keyList{limit: o.Cache}
	d := dice(30)
	for _, missing := range [][]int{{0}, {s.k}} {
		e.Reconstruct(without(d.shards(s.count(), 2), missing))
		if !s.isLong() {
			model.use(missing)
		}
	}
	uses, _ := s.played(picks, calls, o.Stripe)
	for _, key := range uses {
		model.use(key)
	}
	alone := made(t, o)
	want := copyCalls(calls)
	got := copyCalls(calls)
	wasPicks := slices.Clone(picks)
	replies, fault := e.Together(picks, got)
	if fault != api.OK || len(replies) != len(calls) || !slices.Equal(picks, wasPicks) {
		t.Fatalf("Together, %+v: %d replies, %d, or other picks", o, len(replies), fault)
	}
	for i, call := range want {
		reply := answer(alone, call)
		if replies[i] != reply || reply.Err != s.errorOf(calls[i]) || got[i].Kind != call.Kind || !alike(got[i].Shards, call.Shards) || !alike(got[i].Fresh, call.Fresh) {
			t.Fatalf("Together, %+v, picks %v, call %d of the kind %d: %v, alone %v, or other shards", o, picks, i, call.Kind, replies[i], reply)
		}
	}
	if keys := e.Cached(); !sameKeys(keys, model.keys) {
		t.Fatalf("Together, %+v, picks %v: the cache has %v, want %v", o, picks, keys, model.keys)
	}
}

// restoring: a call that misses these shards.
func restoring(kind int, shards [][]byte, missing ...int) api.Call {
	return api.Call{Kind: kind, Shards: without(shards, missing)}
}

// Two calls that use the cache, by all first ten picks of 0 and 1; with a call ahead of them that doesn't, is refused or finds nothing missing, by all first seven of 0 to 2.
func TestTogetherByAllPicks(t *testing.T) {
	s := setting{api.Vander, 2, 1}
	o := s.options()
	o.Backend, o.Stripe = api.Nibble, 1
	d := dice(31)
	whole := d.codeword(s, 2)
	pair := []api.Call{restoring(api.CallReconstruct, whole, 0), restoring(api.CallReconstructData, whole, 1)}
	countLists(10, 2, func(picks []int) { checkTogether(t, o, picks, pair) })
	others := []api.Call{
		{Kind: api.CallEncode, Shards: whole}, {Kind: api.CallVerify, Shards: whole}, {Kind: api.CallUpdate, Shards: whole, Fresh: [][]byte{nil, nil}},
		restoring(api.CallReconstruct, whole), restoring(api.CallReconstructData, whole, 2), restoring(api.CallReconstruct, whole, 0, 1), {Kind: 9},
	}
	for _, other := range others {
		countLists(7, 3, func(picks []int) { checkTogether(t, o, picks, append([]api.Call{other}, pair...)) })
	}
}

// Calls of all kinds, as many as there may be, by thrown picks, over shards of unlike lengths; stripes that divide the length and don't.
func TestTogetherThrown(t *testing.T) {
	d := dice(32)
	for _, s := range each([][2]int{{2, 1}, {3, 2}, {2, 4}, {4, 3}}, api.Vander, api.Cauchy, api.Long) {
		for round := range 150 {
			count := d.next(7)
			if round%50 == 0 {
				count = api.MaxTasks - d.next(2)
			}
			var calls []api.Call
			for range count {
				calls = append(calls, d.call(s, s.width()*(1+d.next(5))))
			}
			all := s.manyOptions()
			o := all[d.next(len(all))]
			o.Cache = 1 + d.next(9)
			checkTogether(t, o, d.picks(d.next(12*count+1), count+2), calls)
		}
	}
}

// Picks at the ends of int, and more of them than there are decisions.
func TestTogetherStrangePicks(t *testing.T) {
	s := setting{api.Cauchy, 3, 2}
	d := dice(33)
	whole := d.codeword(s, 3)
	calls := []api.Call{restoring(api.CallReconstruct, whole, 0), restoring(api.CallReconstruct, whole, 1), restoring(api.CallReconstruct, whole, 2)}
	for _, picks := range [][]int{nil, {}, {math.MinInt}, {math.MaxInt}, {math.MinInt, math.MaxInt, -1, 1 << 40, -1 << 40}, slices.Repeat([]int{-1}, 500), d.picks(500, 1<<30)} {
		checkTogether(t, s.options(), picks, calls)
	}
}

// More calls than tasks: ErrTasks, and nothing is looked at or changed. None: no replies.
func TestTogetherOfTooMany(t *testing.T) {
	for _, s := range small() {
		e := made(t, s.options())
		d := dice(34)
		e.Reconstruct(without(d.shards(s.count(), 2), []int{0}))
		was := e.Cached()
		for _, count := range []int{api.MaxTasks + 1, 100, 1000} {
			var scenes []*scene
			var calls []api.Call
			for range count {
				scenes = append(scenes, stage(without(d.shards(s.count(), 2), []int{s.k})))
				calls = append(calls, api.Call{Kind: api.CallReconstruct, Shards: scenes[len(scenes)-1].shards})
			}
			replies, fault := e.Together(d.picks(9, 9), calls)
			if fault != api.ErrTasks || len(replies) > 0 || !sameKeys(e.Cached(), was) || slices.ContainsFunc(scenes, func(x *scene) bool { return !x.kept(nil, nil) }) {
				t.Fatalf("Together of %d calls: %v, %d, or something is changed", count, replies, fault)
			}
		}
		for _, calls := range [][]api.Call{nil, {}} {
			if replies, fault := e.Together([]int{3}, calls); fault != api.OK || len(replies) > 0 || !sameKeys(e.Cached(), was) {
				t.Fatalf("Together of no calls: %v, %d", replies, fault)
			}
		}
	}
}

// A kind that is none: ErrCall, though the shards have errors of their own; nothing is changed.
func TestTogetherOfOtherKinds(t *testing.T) {
	for _, s := range small() {
		e := made(t, s.options())
		for _, kind := range []int{math.MinInt, -1, 0, 6, 9, 1 << 32, math.MaxInt} {
			for _, shards := range [][][]byte{nil, {nil}, shardsOf(1, 2), shardsOf(make([]int, s.count())...), shardsOf(2, 2, 0)} {
				about, fresh := stage(shards), stage(shards)
				replies, fault := e.Together(nil, []api.Call{{Kind: kind, Shards: about.shards, Fresh: fresh.shards}})
				if fault != api.OK || len(replies) != 1 || replies[0] != (api.Reply{Err: api.ErrCall}) || !about.kept(nil, nil) || !fresh.kept(nil, nil) {
					t.Fatalf("Together of the kind %d: %v, %d, or something is changed", kind, replies, fault)
				}
			}
		}
	}
}

// In company, too, calls write nothing but what is theirs to write, and give back new memory.
func TestTogetherWritesInPlace(t *testing.T) {
	d := dice(35)
	for _, s := range small() {
		for _, e := range s.engines(t) {
			encode, verify, turn := stage(d.shards(s.count(), 6)), stage(d.codeword(s, 6)), stage(d.codeword(s, 6))
			missing := d.some(1+d.next(s.m), s.count())
			data := slices.DeleteFunc(slices.Clone(missing), func(n int) bool { return n >= s.k })
			all, some := stage(without(d.codeword(s, 6), missing)), stage(without(d.codeword(s, 6), missing))
			fresh := stage(d.shards(s.k, 6))
			replies, fault := e.Together(d.picks(30, 5), []api.Call{
				{Kind: api.CallEncode, Shards: encode.shards}, {Kind: api.CallVerify, Shards: verify.shards}, {Kind: api.CallReconstruct, Shards: all.shards},
				{Kind: api.CallReconstructData, Shards: some.shards}, {Kind: api.CallUpdate, Shards: turn.shards, Fresh: fresh.shards},
			})
			if fault != api.OK || !slices.Equal(replies, []api.Reply{{}, {Good: true}, {}, {}, {}}) {
				t.Fatalf("Together, %+v: %v, %d", e.options, replies, fault)
			}
			if !encode.kept(nil, s.parity()) || !verify.kept(nil, nil) || !all.kept(missing, nil) || !some.kept(data, nil) || !turn.kept(nil, s.parity()) || !fresh.kept(nil, nil) {
				t.Fatalf("Together, %+v: something else is changed", e.options)
			}
			checkNewMemory(t, all, missing)
			checkNewMemory(t, some, data)
		}
	}
}

// Calls over one and the same list: nothing is promised but that they end.
func TestTogetherOverOneList(t *testing.T) {
	d := dice(36)
	for _, s := range small() {
		for _, e := range s.engines(t) {
			for range 10 {
				shards := without(d.codeword(s, 5), d.some(d.next(s.m+1), s.count()))
				var calls []api.Call
				for range 12 {
					calls = append(calls, api.Call{Kind: 1 + d.next(5), Shards: shards, Fresh: shards[:s.k]})
				}
				endsQuietly(t, "Together", func() {
					if replies, fault := e.Together(d.picks(100, 12), calls); fault != api.OK || len(replies) != 12 {
						t.Errorf("Together over one list: %v, %d", replies, fault)
					}
				})
			}
		}
	}
}

// The chapter's fourth and fifth examples.
func TestTogetherExamples(t *testing.T) {
	o := setting{api.Vander, 2, 1}.options()
	o.Stripe = 1
	for _, x := range []struct {
		picks []int
		want  [][]int
	}{{nil, [][]int{{1}, {0}}}, {[]int{1, 1}, [][]int{{0}, {1}}}} {
		e := made(t, o)
		a, b := [][]byte{nil, {7, 1}, {1, 2}}, [][]byte{{5, 0}, nil, {1, 2}}
		replies, fault := e.Together(x.picks, []api.Call{{Kind: api.CallReconstruct, Shards: a}, {Kind: api.CallReconstruct, Shards: b}})
		if fault != api.OK || !slices.Equal(replies, make([]api.Reply, 2)) || !slices.Equal(a[0], []byte{5, 0}) || !slices.Equal(b[1], []byte{7, 1}) || !sameKeys(e.Cached(), x.want) {
			t.Errorf("Together, picks %v: %v, %d, %v, %v, %v", x.picks, replies, fault, a, b, e.Cached())
		}
	}
}
