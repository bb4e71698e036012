package shape

import (
	"fmt"
	"slices"
	"testing"

	"cullet/api"
)

// smallSettings: with few shards, so that every list of short lengths can be gone through.
func smallSettings() []setting {
	var list []setting
	for _, f := range families() {
		list = append(list, setting{f, 1, 1}, setting{f, 2, 1}, setting{f, 1, 2}, setting{f, 3, 1}, setting{f, 2, 2}, setting{f, 1, 3})
	}
	return list
}

func wholeAgrees(t *testing.T, s setting, list []int) {
	t.Helper()
	length, e := Whole(s.f, s.k, s.m, shardsOf(list...))
	want, wantError := whole(s, list)
	wants(t, fmt.Sprintf("Whole(%v, lengths %d)", s, list), length, e, want, wantError)
}

func partialAgrees(t *testing.T, s setting, list []int) {
	t.Helper()
	length, missing, e := Partial(s.f, s.k, s.m, shardsOf(list...))
	want, wantMissing, wantError := partial(s, list)
	wantsList(t, fmt.Sprintf("Partial(%v, lengths %d)", s, list), length, missing, e, want, wantMissing, wantError)
}

func freshAgrees(t *testing.T, s setting, list, fresh []int) {
	t.Helper()
	length, turned, e := Fresh(s.f, s.k, s.m, shardsOf(list...), shardsOf(fresh...))
	want, wantTurned, wantError := fresher(s, list, fresh)
	wantsList(t, fmt.Sprintf("Fresh(%v, lengths %d; fresh %d)", s, list, fresh), length, turned, e, want, wantTurned, wantError)
}

// P16.4

func TestWholeExamples(t *testing.T) {
	for _, c := range []struct {
		s      setting
		list   []int
		length int
		e      api.Errno
	}{
		{setting{api.Vander, 2, 1}, []int{3, 3, 3}, 3, api.OK},
		{setting{api.Vander, 2, 1}, []int{3, 0, 4}, 0, api.ErrEmpty},
		{setting{api.Vander, 2, 1}, []int{3, 4, 0}, 0, api.ErrEmpty},
		{setting{api.Vander, 2, 1}, []int{3, 3, 4}, 0, api.ErrUneven},
		{setting{api.Long, 2, 1}, []int{3, 3, 3}, 0, api.ErrOdd},
		{setting{api.Long, 2, 1}, []int{3, 3, 4}, 0, api.ErrUneven},
		{setting{api.Long, 2, 1}, []int{2, 0, 4}, 0, api.ErrEmpty},
		{setting{api.Long, 2, 1}, []int{4, 4, 4}, 4, api.OK},
		{setting{api.Vander, 2, 1}, []int{3, 0}, 0, api.ErrCount},
		{setting{api.Vander, 2, 1}, nil, 0, api.ErrCount},
	} {
		length, e := Whole(c.s.f, c.s.k, c.s.m, shardsOf(c.list...))
		wants(t, fmt.Sprintf("Whole(%v, lengths %d)", c.s, c.list), length, e, c.length, c.e)
	}
}

// Every list of up to five shards with lengths below 4, the lists of wrong counts among them.
func TestWholeOfShortLists(t *testing.T) {
	for _, s := range smallSettings() {
		for n := range 6 {
			countLists(n, 4, func(list []int) { wholeAgrees(t, s, list) })
		}
	}
}

// P16.5

func TestPartialExamples(t *testing.T) {
	for _, c := range []struct {
		s       setting
		list    []int
		length  int
		missing []int
		e       api.Errno
	}{
		{setting{api.Vander, 2, 2}, []int{3, 0, 3, 0}, 3, []int{1, 3}, api.OK},
		{setting{api.Long, 2, 1}, []int{0, 0, 3}, 0, nil, api.ErrOdd},
		{setting{api.Vander, 2, 1}, []int{0, 0, 3}, 0, nil, api.ErrTooFew},
		{setting{api.Vander, 2, 1}, []int{0, 0, 0}, 0, nil, api.ErrEmpty},
		{setting{api.Vander, 2, 2}, []int{3, 3, 3, 3}, 3, nil, api.OK},
		{setting{api.Vander, 3, 1}, []int{1, 0, 0, 2}, 0, nil, api.ErrUneven},
		{setting{api.Long, 3, 1}, []int{1, 0, 0, 2}, 0, nil, api.ErrUneven},
		{setting{api.Long, 3, 1}, []int{2, 0, 0, 2}, 0, nil, api.ErrTooFew},
		{setting{api.Long, 1, 3}, []int{0, 0, 0, 2}, 2, []int{0, 1, 2}, api.OK},
		{setting{api.Vander, 2, 1}, []int{0, 0}, 0, nil, api.ErrCount},
	} {
		length, missing, e := Partial(c.s.f, c.s.k, c.s.m, shardsOf(c.list...))
		wantsList(t, fmt.Sprintf("Partial(%v, lengths %d)", c.s, c.list), length, missing, e, c.length, c.missing, c.e)
	}
}

func TestPartialOfShortLists(t *testing.T) {
	for _, s := range smallSettings() {
		for n := range 6 {
			countLists(n, 4, func(list []int) { partialAgrees(t, s, list) })
		}
	}
}

// As many missing as there are parity shards are enough; one more is not.
func TestPartialAtTheEdge(t *testing.T) {
	d := dice(1)
	for _, s := range []setting{{api.Vander, 200, 56}, {api.Cauchy, 1, 255}, {api.Vander, 255, 1}, {api.Long, 300, 256}, {api.Long, 1, 2000}, {api.Long, 2000, 1}} {
		for _, lost := range []int{0, 1, s.m - 1, s.m, s.m + 1, s.m + s.k - 1, s.m + s.k} {
			list := slices.Repeat([]int{4}, s.k+s.m)
			clear(list[:lost])
			d.shuffle(list)
			partialAgrees(t, s, list)
		}
	}
}

// P16.6

func TestFreshExamples(t *testing.T) {
	for _, c := range []struct {
		f           api.Family
		list, fresh []int
		length      int
		turned      []int
		e           api.Errno
	}{
		{api.Vander, []int{3, 3, 3}, []int{0, 3}, 3, []int{1}, api.OK},
		{api.Vander, []int{3, 3, 3}, []int{0, 2}, 0, nil, api.ErrUneven},
		{api.Vander, []int{3, 3, 3}, []int{0, 0}, 3, nil, api.OK},
		{api.Vander, []int{3, 3, 3}, []int{3, 3}, 3, []int{0, 1}, api.OK},
		{api.Vander, []int{3, 3, 3}, []int{2, 2}, 0, nil, api.ErrUneven},
		{api.Vander, []int{3, 0, 3}, []int{2, 0}, 0, nil, api.ErrEmpty},
		{api.Long, []int{3, 3, 3}, []int{0, 2}, 0, nil, api.ErrUneven},
		{api.Long, []int{3, 3, 3}, []int{0, 0}, 0, nil, api.ErrOdd},
		{api.Long, []int{4, 4, 4}, []int{4, 0}, 4, []int{0}, api.OK},
		{api.Vander, []int{3, 3, 3}, []int{3}, 0, nil, api.ErrCount},
		{api.Vander, []int{3, 3, 3}, []int{0, 0, 0}, 0, nil, api.ErrCount},
		{api.Vander, []int{3, 0}, []int{0, 0}, 0, nil, api.ErrCount},
		{api.Vander, []int{0, 0, 0}, nil, 0, nil, api.ErrCount},
	} {
		length, turned, e := Fresh(c.f, 2, 1, shardsOf(c.list...), shardsOf(c.fresh...))
		wantsList(t, fmt.Sprintf("Fresh(%d, lengths %d; fresh %d)", c.f, c.list, c.fresh), length, turned, e, c.length, c.turned, c.e)
	}
}

// Every list of shards with lengths below 4, beside every one of fresh shards, the lists of wrong counts among them.
func TestFreshOfShortLists(t *testing.T) {
	for _, s := range smallSettings() {
		for n := max(0, s.k+s.m-1); n <= s.k+s.m+1; n++ {
			base := 4
			if n > 3 {
				base = 3
			}
			for fresh := max(0, s.k-1); fresh <= s.k+1; fresh++ {
				countLists(n, base, func(list []int) {
					countLists(fresh, 3, func(other []int) { freshAgrees(t, s, list, other) })
				})
			}
		}
	}
}

// All three

// One shard that differs in a long list is found, wherever it stands and whatever it is.
func TestOneOtherShard(t *testing.T) {
	for _, s := range []setting{{api.Vander, 9, 5}, {api.Cauchy, 60, 70}, {api.Long, 70, 60}} {
		for _, length := range []int{1, 2, 7, 8, 300} {
			for at := range s.k + s.m {
				for _, other := range []int{0, 1, length - 1, length + 1, 2 * length, 256 + length} {
					list := slices.Repeat([]int{length}, s.k+s.m)
					list[at] = other
					wholeAgrees(t, s, list)
					partialAgrees(t, s, list)
					freshAgrees(t, s, list, make([]int, s.k))
					fresh := make([]int, s.k)
					fresh[at%s.k] = other
					freshAgrees(t, s, slices.Repeat([]int{length}, s.k+s.m), fresh)
				}
			}
		}
	}
}

// An empty shard and two lengths: which stands first makes no difference, in long lists too.
func TestQuestionsAreOfTheWholeList(t *testing.T) {
	d := dice(2)
	for range 2000 {
		s := setting{families()[d.next(3)], 1 + d.next(40), 1 + d.next(40)}
		base := 2 + d.next(5)
		list := slices.Repeat([]int{base}, s.k+s.m)
		for range d.next(4) {
			list[d.next(len(list))] = 0
		}
		for range d.next(3) {
			list[d.next(len(list))] = base + d.next(3)
		}
		fresh := make([]int, s.k)
		for range d.next(4) {
			fresh[d.next(len(fresh))] = base
		}
		if d.next(4) == 0 {
			fresh[d.next(len(fresh))] = base + 1
		}
		wholeAgrees(t, s, list)
		partialAgrees(t, s, list)
		freshAgrees(t, s, list, fresh)
		freshAgrees(t, s, slices.Repeat([]int{base}, s.k+s.m), fresh)
	}
}

func TestWrongCounts(t *testing.T) {
	for _, s := range []setting{{api.Vander, 2, 1}, {api.Cauchy, 100, 156}, {api.Long, 3, 3}, {api.Long, 500, 2}} {
		for _, n := range []int{0, 1, s.k - 1, s.k, s.k + s.m - 1, s.k + s.m, s.k + s.m + 1, 2 * (s.k + s.m)} {
			for _, length := range []int{0, 1, 2} {
				list := slices.Repeat([]int{length}, n)
				wholeAgrees(t, s, list)
				partialAgrees(t, s, list)
				for _, fresh := range []int{0, s.k - 1, s.k, s.k + 1, s.k + s.m} {
					freshAgrees(t, s, list, slices.Repeat([]int{length}, fresh))
				}
			}
		}
	}
}

// The parameters' errors are ahead of all that shards can have.
func TestWrongParametersOfSets(t *testing.T) {
	for _, s := range wrongSettings() {
		for _, list := range [][]int{nil, {0}, {1}, {1, 2}, {2, 2, 2}, {0, 0, 0}, {1, 0, 3}} {
			wholeAgrees(t, s, list)
			partialAgrees(t, s, list)
			freshAgrees(t, s, list, nil)
			freshAgrees(t, s, list, list)
		}
	}
}

// The greatest sets, of one great shard's memory everywhere: hundreds of calls end soon, since no byte is read and each shard is looked at a few times.
func TestTheGreatestSets(t *testing.T) {
	shard := make([]byte, 1<<26)
	for _, s := range []setting{{api.Long, 65535, 1}, {api.Long, 32768, 32768}, {api.Vander, 255, 1}} {
		shards := slices.Repeat([][]byte{shard}, s.k+s.m)
		holes := slices.Clone(shards)
		holes[s.k] = nil
		for range 100 {
			length, e := Whole(s.f, s.k, s.m, shards)
			wants(t, fmt.Sprintf("Whole(%v)", s), length, e, 1<<26, api.OK)
			length, missing, e := Partial(s.f, s.k, s.m, holes)
			wantsList(t, fmt.Sprintf("Partial(%v)", s), length, missing, e, 1<<26, []int{s.k}, api.OK)
			length, turned, e := Fresh(s.f, s.k, s.m, shards, shards[:s.k])
			if length != 1<<26 || e != api.OK || len(turned) != s.k || turned[s.k-1] != s.k-1 {
				t.Fatalf("Fresh(%v) = %d, %d numbers, %d", s, length, len(turned), e)
			}
		}
	}
}
