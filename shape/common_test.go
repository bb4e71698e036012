package shape

import (
	"bytes"
	"fmt"
	"math"
	"math/big"
	"slices"
	"testing"

	"cullet/api"
)

// What the tests hold the package against is worked out here by the chapter's words, without a call of the package: each error is a question of its own, asked of the whole list, and the first one in the promise's order is the answer.

// question: an error, and whether it applies.
type question struct {
	e       api.Errno
	applies func() bool
}

// firstOf: the answer is the error that is named first. A later question is not asked where an earlier one applies.
func firstOf(list []question) api.Errno {
	for _, q := range list {
		if q.applies() {
			return q.e
		}
	}
	return api.OK
}

func known(f api.Family) bool { return f == api.Vander || f == api.Cauchy || f == api.Long }

// powers: 1, 2, 4, .. 65536.
var powers = []int{1, 2, 4, 8, 16, 32, 64, 128, 256, 512, 1024, 2048, 4096, 8192, 16384, 32768, 65536}

// powerFor: the first power that is n or more; 0 if there is none here.
func powerFor(n int) int {
	for _, p := range powers {
		if p >= n {
			return p
		}
	}
	return 0
}

// valid: by DOC.md's words, with numbers of any size.
func valid(f api.Family, k, m int) bool {
	if k < 1 || m < 1 {
		return false
	}
	if f != api.Long {
		return sum(k, m).Cmp(big.NewInt(256)) <= 0
	}
	power := powerFor(m)
	return power > 0 && sum(k, power).Cmp(big.NewInt(65536)) <= 0
}

func sum(a, b int) *big.Int { return new(big.Int).Add(big.NewInt(int64(a)), big.NewInt(int64(b))) }

// setting: parameters as a call gets them.
type setting struct {
	f    api.Family
	k, m int
}

func (s setting) String() string { return fmt.Sprintf("%d, %d, %d", s.f, s.k, s.m) }

// begin: the two questions that stand ahead in nearly all calls.
func (s setting) begin() []question {
	return []question{
		{api.ErrFamily, func() bool { return !known(s.f) }},
		{api.ErrParams, func() bool { return !valid(s.f, s.k, s.m) }},
	}
}

// lengths: of the shards, in their order.
func lengths(shards [][]byte) []int {
	var list []int
	for _, shard := range shards {
		list = append(list, len(shard))
	}
	return list
}

// kinds: the lengths that there are, but 0; each one once, rising.
func kinds(list []int) []int {
	list = slices.DeleteFunc(slices.Clone(list), func(n int) bool { return n == 0 })
	slices.Sort(list)
	return slices.Compact(list)
}

// odd: is the one length odd, where the family asks?
func (s setting) odd(list []int) bool { return s.f == api.Long && kinds(list)[0]%2 != 0 }

// places: at which the list has a 0, or has none.
func places(list []int, zero bool) []int {
	var found []int
	for i, n := range list {
		if (n == 0) == zero {
			found = append(found, i)
		}
	}
	return found
}

// whole: what P16.4 has for shards of these lengths.
func whole(s setting, list []int) (int, api.Errno) {
	e := firstOf(append(s.begin(),
		question{api.ErrCount, func() bool { return len(list) != s.k+s.m }},
		question{api.ErrEmpty, func() bool { return slices.Contains(list, 0) }},
		question{api.ErrUneven, func() bool { return len(kinds(list)) > 1 }},
		question{api.ErrOdd, func() bool { return s.odd(list) }}))
	if e != api.OK {
		return 0, e
	}
	return list[0], api.OK
}

// partial: what P16.5 has.
func partial(s setting, list []int) (int, []int, api.Errno) {
	e := firstOf(append(s.begin(),
		question{api.ErrCount, func() bool { return len(list) != s.k+s.m }},
		question{api.ErrEmpty, func() bool { return len(kinds(list)) == 0 }},
		question{api.ErrUneven, func() bool { return len(kinds(list)) > 1 }},
		question{api.ErrOdd, func() bool { return s.odd(list) }},
		question{api.ErrTooFew, func() bool { return len(places(list, false)) < s.k }}))
	if e != api.OK {
		return 0, nil, e
	}
	return slices.Max(list), places(list, true), api.OK
}

// fresher: what P16.6 has.
func fresher(s setting, list, fresh []int) (int, []int, api.Errno) {
	both := slices.Concat(list, fresh)
	e := firstOf(append(s.begin(),
		question{api.ErrCount, func() bool { return len(list) != s.k+s.m || len(fresh) != s.k }},
		question{api.ErrEmpty, func() bool { return slices.Contains(list, 0) }},
		question{api.ErrUneven, func() bool { return len(kinds(both)) > 1 }},
		question{api.ErrOdd, func() bool { return s.odd(both) }}))
	if e != api.OK {
		return 0, nil, e
	}
	return list[0], places(fresh, false), api.OK
}

// joined: what P16.9 has; the answer byte by byte.
func joined(s setting, shards [][]byte, size int) ([]byte, api.Errno) {
	list := lengths(shards)
	e := firstOf(append(s.begin(),
		question{api.ErrCount, func() bool { return len(list) < s.k }},
		question{api.ErrEmpty, func() bool { return slices.Contains(list[:s.k], 0) }},
		question{api.ErrUneven, func() bool { return len(kinds(list[:s.k])) > 1 }},
		question{api.ErrOdd, func() bool { return s.odd(list[:s.k]) }},
		question{api.ErrJoin, func() bool { return size < 0 || size > s.k*list[0] }}))
	if e != api.OK {
		return nil, e
	}
	var data []byte
	for i := range size {
		data = append(data, shards[i/list[0]][i%list[0]])
	}
	return data, api.OK
}

// lengthFor: the least one that holds n bytes, looked for from 1 on; of Long among the even ones.
func lengthFor(s setting, n int) int {
	step := 1
	if s.f == api.Long {
		step = 2
	}
	length := step
	for s.k*length < n {
		length += step
	}
	return length
}

// pieces: what P16.8 has for data that isn't empty; byte by byte.
func pieces(s setting, data []byte) [][]byte {
	length := lengthFor(s, len(data))
	shards := make([][]byte, s.k+s.m)
	for j := range shards {
		for i := range length {
			b := byte(0)
			if j < s.k && j*length+i < len(data) {
				b = data[j*length+i]
			}
			shards[j] = append(shards[j], b)
		}
	}
	return shards
}

// shardsOf: shards of these lengths, with bytes that aren't 0; every other empty one is nil.
func shardsOf(list ...int) [][]byte {
	shards := make([][]byte, len(list))
	for i, n := range list {
		if n > 0 || i%2 == 0 {
			shards[i] = make([]byte, n)
		}
		for at := range n {
			shards[i][at] = byte(1 + (i*37+at)%255)
		}
	}
	return shards
}

// countLists calls with each list of n numbers below base.
func countLists(n, base int, with func(list []int)) {
	list := make([]int, n)
	for {
		with(list)
		at := 0
		for at < n && list[at] == base-1 {
			list[at] = 0
			at++
		}
		if at == n {
			return
		}
		list[at]++
	}
}

// dice: numbers that look like no pattern.
type dice uint64

func (d *dice) next(n int) int {
	*d = *d*6364136223846793005 + 1442695040888963407
	return int(uint64(*d)>>33) % n
}

func (d *dice) bytes(n int) []byte {
	list := make([]byte, n)
	for i := range list {
		list[i] = byte(d.next(256))
	}
	return list
}

// shuffle: the numbers in another order.
func (d *dice) shuffle(list []int) {
	for i := range list {
		j := d.next(i + 1)
		list[i], list[j] = list[j], list[i]
	}
}

func families() []api.Family { return []api.Family{api.Vander, api.Cauchy, api.Long} }

func wrongFamilies() []api.Family {
	return []api.Family{-1, 3, 4, 9, 256, -256, 1 << 32, math.MinInt, math.MaxInt}
}

// extremes: numbers at which sums, products and signs turn round.
func extremes() []int {
	return []int{math.MinInt, math.MinInt + 1, math.MinInt + 255, math.MinInt + 65536, math.MinInt / 2, math.MinInt32, -1 << 40, -1 << 32, -65536, -256, -2, -1, 0, 1, 2, 255, 256, 257, 65535, 65536, 65537, 131072, 1 << 32, 1<<32 + 1, 1 << 40, 1 << 62, math.MaxInt32, math.MaxInt / 2, math.MaxInt/2 + 1, math.MaxInt - 65536, math.MaxInt - 256, math.MaxInt - 1, math.MaxInt}
}

// wrongSettings: with one error or two ahead of all that a shard set can have.
func wrongSettings() []setting {
	list := []setting{
		{api.Vander, 0, 1}, {api.Vander, 1, 0}, {api.Cauchy, -1, 3}, {api.Cauchy, 3, -1}, {api.Vander, 200, 57}, {api.Cauchy, 256, 1}, {api.Vander, 1, 256},
		{api.Long, 0, 1}, {api.Long, 1, 0}, {api.Long, 65536, 1}, {api.Long, 40000, 20000}, {api.Long, 32769, 32767}, {api.Long, 1, 32769},
		{api.Vander, math.MaxInt, math.MaxInt}, {api.Cauchy, math.MinInt, math.MinInt}, {api.Long, math.MaxInt, 1}, {api.Long, 1, math.MaxInt}, {api.Long, math.MaxInt, math.MinInt},
	}
	for _, f := range wrongFamilies() {
		list = append(list, setting{f, 2, 1}, setting{f, 0, 0}, setting{f, math.MaxInt, 1})
	}
	return list
}

func sameShards(a, b [][]byte) bool { return slices.EqualFunc(a, b, bytes.Equal) }

// wants: the answer is that number and that error.
func wants(t *testing.T, what string, have int, e api.Errno, want int, wantError api.Errno) {
	t.Helper()
	if have != want || e != wantError {
		t.Errorf("%s = %d, %d, want %d, %d", what, have, e, want, wantError)
	}
}

// wantsList: the answer is that number, that list and that error.
func wantsList(t *testing.T, what string, have int, list []int, e api.Errno, want int, wantList []int, wantError api.Errno) {
	t.Helper()
	if have != want || e != wantError || !slices.Equal(list, wantList) {
		t.Errorf("%s = %d, %d, %d, want %d, %d, %d", what, have, list, e, want, wantList, wantError)
	}
}
