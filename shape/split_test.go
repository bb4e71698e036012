package shape

import (
	"bytes"
	"fmt"
	"math"
	"slices"
	"testing"

	"cullet/api"
)

// P16.7

func TestLengthExamples(t *testing.T) {
	for _, c := range []struct {
		s       setting
		n, want int
	}{
		{setting{api.Vander, 3, 2}, 7, 3},
		{setting{api.Long, 3, 2}, 7, 4},
		{setting{api.Long, 3, 2}, 13, 6},
		{setting{api.Vander, 3, 2}, 1, 1},
		{setting{api.Long, 1, 1}, 1, 2},
		{setting{api.Vander, 1, 1}, 1 << 40, 1 << 40},
		{setting{api.Vander, 3, 1}, 1 << 40, 366503875926},
		{setting{api.Cauchy, 255, 1}, 1<<40 - 1, 4311810305},
		{setting{api.Cauchy, 255, 1}, 1 << 40, 4311810306},
		{setting{api.Long, 1, 1}, 1<<40 - 1, 1 << 40},
		{setting{api.Long, 65535, 1}, 1 << 40, 16777474},
		{setting{api.Long, 32768, 32768}, 1 << 40, 1 << 25},
		{setting{api.Long, 32768, 32768}, 1<<40 - 32768, 1 << 25},
	} {
		length, e := Length(c.s.f, c.s.k, c.s.m, c.n)
		wants(t, fmt.Sprintf("Length(%v, %d)", c.s, c.n), length, e, c.want, api.OK)
	}
}

// Every number of bytes up to some, of every number of data shards up to some.
func TestLengthOfSmallNumbers(t *testing.T) {
	for _, f := range families() {
		for k := 1; k <= 40; k++ {
			for n := 1; n <= 300; n++ {
				s := setting{f, k, 1 + n%7}
				length, e := Length(s.f, s.k, s.m, n)
				wants(t, fmt.Sprintf("Length(%v, %d)", s, n), length, e, lengthFor(s, n), api.OK)
			}
		}
	}
}

// Of great numbers: the length is enough, and none below it is.
func TestLengthOfGreatNumbers(t *testing.T) {
	d := dice(3)
	for range 20000 {
		s := setting{families()[d.next(3)], 1 + d.next(200), 1 + d.next(50)}
		step := 1
		if s.f == api.Long {
			step, s.k = 2, 1+d.next(32768)
		}
		n := 1<<40 - d.next(1<<30)>>d.next(31)
		if d.next(2) == 0 {
			n >>= 1 + d.next(40)
		}
		n = max(n, 1)
		length, e := Length(s.f, s.k, s.m, n)
		if e != api.OK || length < step || length%step != 0 || s.k*length < n || s.k*(length-step) >= n {
			t.Errorf("Length(%v, %d) = %d, %d", s, n, length, e)
		}
	}
}

func TestLengthRefuses(t *testing.T) {
	for _, s := range append(wrongSettings(), setting{api.Vander, 3, 2}, setting{api.Cauchy, 1, 1}, setting{api.Long, 1, 1}, setting{api.Long, 65535, 1}) {
		for _, n := range append(extremes(), 1<<40-1, 1<<40+1, 1<<41) {
			want := firstOf(append(s.begin(),
				question{api.ErrNoData, func() bool { return n < 1 }},
				question{api.ErrSize, func() bool { return n > 1<<40 }}))
			length, e := Length(s.f, s.k, s.m, n)
			if e != want || (e == api.OK) != (length > 0) {
				t.Errorf("Length(%v, %d) = %d, %d, want the error %d", s, n, length, e, want)
			}
			if e != api.OK && length != 0 {
				t.Errorf("Length(%v, %d) = %d beside an error", s, n, length)
			}
		}
	}
}

// P16.8

func TestSplitExamples(t *testing.T) {
	for _, c := range []struct {
		s    setting
		data []byte
		want [][]byte
	}{
		{setting{api.Vander, 3, 1}, []byte{1, 2, 3, 4}, [][]byte{{1, 2}, {3, 4}, {0, 0}, {0, 0}}},
		{setting{api.Long, 2, 1}, []byte{1, 2, 3}, [][]byte{{1, 2}, {3, 0}, {0, 0}}},
		{setting{api.Cauchy, 1, 2}, []byte{9}, [][]byte{{9}, {0}, {0}}},
		{setting{api.Long, 1, 1}, []byte{9}, [][]byte{{9, 0}, {0, 0}}},
		{setting{api.Vander, 5, 1}, []byte{1, 2, 3, 4, 5, 6}, [][]byte{{1, 2}, {3, 4}, {5, 6}, {0, 0}, {0, 0}, {0, 0}}},
	} {
		shards, e := Split(c.s.f, c.s.k, c.s.m, c.data)
		if e != api.OK || !sameShards(shards, c.want) {
			t.Errorf("Split(%v, %v) = %v, %d, want %v", c.s, c.data, shards, e, c.want)
		}
	}
}

// splits: the shards are those of the chapter's words, and together they give the data back.
func splits(t *testing.T, s setting, data []byte) {
	t.Helper()
	shards, e := Split(s.f, s.k, s.m, data)
	if e != api.OK || !sameShards(shards, pieces(s, data)) {
		t.Fatalf("Split(%v, %d bytes): %d shards, %d", s, len(data), len(shards), e)
	}
	length, e := Whole(s.f, s.k, s.m, shards)
	if want, _ := Length(s.f, s.k, s.m, len(data)); e != api.OK || length != want {
		t.Errorf("Split(%v, %d bytes): Whole of the shards is %d, %d", s, len(data), length, e)
	}
	for _, list := range [][][]byte{shards, shards[:s.k]} {
		back, e := Join(s.f, s.k, s.m, list, len(data))
		if e != api.OK || !bytes.Equal(back, data) {
			t.Errorf("Split(%v, %d bytes), and Join: %d bytes, %d", s, len(data), len(back), e)
		}
	}
}

func TestSplitOfShortData(t *testing.T) {
	data := bytes.Repeat([]byte{1, 2, 3, 4, 5, 255, 254}, 20)
	for _, f := range families() {
		for k := 1; k <= 12; k++ {
			for _, m := range []int{1, 2, 5} {
				for n := 1; n <= 70; n++ {
					splits(t, setting{f, k, m}, data[:n])
				}
			}
		}
	}
}

func TestSplitOfMuchData(t *testing.T) {
	d := dice(4)
	for _, s := range []setting{{api.Vander, 255, 1}, {api.Cauchy, 1, 255}, {api.Vander, 128, 128}, {api.Long, 65535, 1}, {api.Long, 1, 32768}, {api.Long, 32768, 32768}, {api.Long, 700, 3}} {
		for _, n := range []int{1, 2, s.k, s.k + 1, 2*s.k - 1, 2 * s.k, 2*s.k + 1, 70000} {
			if (s.k+s.m)*lengthFor(s, n) <= 1<<22 {
				splits(t, s, d.bytes(n))
			}
		}
	}
}

// All shards together may have 2^26 bytes and no more.
func TestSplitAtTheLimit(t *testing.T) {
	data := make([]byte, 1<<26+1)
	for i := range data {
		data[i] = byte(i)
	}
	for _, c := range []struct {
		s    setting
		n    int
		want api.Errno
	}{
		{setting{api.Vander, 1, 1}, 1 << 25, api.OK},
		{setting{api.Vander, 1, 1}, 1<<25 + 1, api.ErrSize},
		{setting{api.Cauchy, 3, 1}, 3 << 24, api.OK},
		{setting{api.Cauchy, 3, 1}, 3<<24 + 1, api.ErrSize},
		{setting{api.Vander, 1, 2}, 22369621, api.OK},
		{setting{api.Vander, 1, 2}, 22369622, api.ErrSize},
		{setting{api.Vander, 255, 1}, 255 << 18, api.OK},
		{setting{api.Vander, 255, 1}, 255<<18 + 1, api.ErrSize},
		{setting{api.Vander, 1, 255}, 1 << 18, api.OK},
		{setting{api.Vander, 1, 255}, 1<<18 + 1, api.ErrSize},
		{setting{api.Long, 1, 1}, 1<<25 - 1, api.OK},
		{setting{api.Long, 1, 1}, 1<<25 + 1, api.ErrSize},
		{setting{api.Long, 2, 1}, 44739240, api.OK},
		{setting{api.Long, 2, 1}, 44739241, api.ErrSize},
		{setting{api.Long, 1, 32768}, 2046, api.OK},
		{setting{api.Long, 1, 32768}, 2047, api.ErrSize},
		{setting{api.Long, 65535, 1}, 65535 << 10, api.OK},
		{setting{api.Long, 65535, 1}, 65535<<10 + 1, api.ErrSize},
		{setting{api.Long, 32768, 32768}, 1 << 25, api.OK},
		{setting{api.Long, 32768, 32768}, 1<<25 + 1, api.ErrSize},
		{setting{api.Vander, 2, 1}, 1 << 26, api.ErrSize},
		{setting{api.Cauchy, 255, 1}, 1<<26 + 1, api.ErrSize},
	} {
		shards, e := Split(c.s.f, c.s.k, c.s.m, data[:c.n])
		if e != c.want {
			t.Fatalf("Split(%v, %d bytes): the error %d, want %d", c.s, c.n, e, c.want)
		}
		if e != api.OK {
			if len(shards) != 0 {
				t.Errorf("Split(%v, %d bytes): %d shards beside an error", c.s, c.n, len(shards))
			}
			continue
		}
		all := bytes.Join(shards, nil)
		if len(shards) != c.s.k+c.s.m || !bytes.HasPrefix(all, data[:c.n]) || len(bytes.Trim(all[c.n:], "\x00")) != 0 {
			t.Errorf("Split(%v, %d bytes): other bytes", c.s, c.n)
		}
	}
}

func TestSplitRefuses(t *testing.T) {
	great := make([]byte, 1<<26+1)
	for _, s := range append(wrongSettings(), setting{api.Vander, 3, 1}, setting{api.Cauchy, 255, 1}, setting{api.Long, 32768, 32768}) {
		for _, data := range [][]byte{nil, {}, great} {
			want := firstOf(append(s.begin(),
				question{api.ErrNoData, func() bool { return len(data) == 0 }},
				question{api.ErrSize, func() bool { return true }}))
			if shards, e := Split(s.f, s.k, s.m, data); e != want || len(shards) != 0 {
				t.Errorf("Split(%v, %d bytes): %d shards, %d, want the error %d", s, len(data), len(shards), e, want)
			}
		}
	}
}

// Each shard is memory of its own: neither what is written over it nor what is appended to it is seen in another one.
func TestSplitShardsShareNothing(t *testing.T) {
	d := dice(5)
	for _, s := range []setting{{api.Vander, 3, 2}, {api.Cauchy, 20, 30}, {api.Long, 7, 4}} {
		data := d.bytes(101)
		want := pieces(s, data)
		for i := range want {
			shards, _ := Split(s.f, s.k, s.m, data)
			grown := append(shards[i], 7, 7, 7, 7, 7, 7, 7, 7, 7)
			for at := range grown {
				grown[at] = 0xEE
			}
			spoil(shards[i], 0xEE)
			if !sameShards(shards[:i], want[:i]) || !sameShards(shards[i+1:], want[i+1:]) {
				t.Fatalf("Split(%v): what is done to shard %d is seen in another one", s, i)
			}
		}
	}
}

// P16.9

func joinAgrees(t *testing.T, s setting, shards [][]byte, size int) {
	t.Helper()
	data, e := Join(s.f, s.k, s.m, shards, size)
	want, wantError := joined(s, shards, size)
	if e != wantError || !bytes.Equal(data, want) {
		t.Errorf("Join(%v, lengths %d, %d) = %d bytes, %d, want %d bytes, %d", s, lengths(shards), size, len(data), e, len(want), wantError)
	}
}

func TestJoinExamples(t *testing.T) {
	two := [][]byte{{1, 2}, {3, 4}}
	for _, c := range []struct {
		f      api.Family
		shards [][]byte
		size   int
		want   []byte
		e      api.Errno
	}{
		{api.Vander, two, 3, []byte{1, 2, 3}, api.OK},
		{api.Vander, two, 5, nil, api.ErrJoin},
		{api.Vander, two, 4, []byte{1, 2, 3, 4}, api.OK},
		{api.Vander, two, 2, []byte{1, 2}, api.OK},
		{api.Vander, two, 1, []byte{1}, api.OK},
		{api.Vander, two, 0, nil, api.OK},
		{api.Vander, two, -1, nil, api.ErrJoin},
		{api.Vander, two, math.MaxInt, nil, api.ErrJoin},
		{api.Vander, two, math.MinInt, nil, api.ErrJoin},
		{api.Cauchy, [][]byte{{1, 2}, {3, 4}, nil}, 4, []byte{1, 2, 3, 4}, api.OK},
		{api.Long, [][]byte{{1, 2}, {3, 4}, {5}, {}, {6, 7, 8}}, 4, []byte{1, 2, 3, 4}, api.OK},
		{api.Long, [][]byte{{1, 2}, {3, 4}, {5, 6}}, 5, nil, api.ErrJoin},
		{api.Vander, [][]byte{{1, 2}}, 9, nil, api.ErrCount},
		{api.Vander, nil, -1, nil, api.ErrCount},
		{api.Vander, [][]byte{{1, 2}, nil}, 9, nil, api.ErrEmpty},
		{api.Vander, [][]byte{nil, nil}, 0, nil, api.ErrEmpty},
		{api.Long, [][]byte{{1}, nil}, -1, nil, api.ErrEmpty},
		{api.Long, [][]byte{{1, 2}, {3}}, 9, nil, api.ErrUneven},
		{api.Long, [][]byte{{1}, {3}}, 9, nil, api.ErrOdd},
	} {
		data, e := Join(c.f, 2, 1, c.shards, c.size)
		if e != c.e || !bytes.Equal(data, c.want) {
			t.Errorf("Join(%d, %v, %d) = %v, %d, want %v, %d", c.f, c.shards, c.size, data, e, c.want, c.e)
		}
	}
}

// Every list of up to five shards with lengths below 4, with all sizes about what they hold.
func TestJoinOfShortLists(t *testing.T) {
	for _, s := range smallSettings() {
		for n := range 6 {
			countLists(n, 4, func(list []int) {
				shards := shardsOf(list...)
				for size := -1; size <= 3*s.k+1; size++ {
					joinAgrees(t, s, shards, size)
				}
				joinAgrees(t, s, shards, math.MaxInt)
				joinAgrees(t, s, shards, math.MinInt)
			})
		}
	}
}

// Every size of some greater sets, and sizes far off.
func TestJoinOfEverySize(t *testing.T) {
	for _, s := range []setting{{api.Vander, 5, 2}, {api.Cauchy, 17, 3}, {api.Long, 6, 5}} {
		for _, length := range []int{1, 2, 10, 11} {
			shards := shardsOf(slices.Repeat([]int{length}, s.k+s.m)...)
			for size := range s.k*length + 3 {
				joinAgrees(t, s, shards, size)
			}
			for _, size := range extremes() {
				joinAgrees(t, s, shards, size)
			}
		}
	}
}

// Shards behind the first k are not looked at, whatever they are; nor need they be there.
func TestJoinLooksAtDataShardsAlone(t *testing.T) {
	for _, s := range []setting{{api.Vander, 3, 2}, {api.Long, 3, 2}} {
		data := shardsOf(4, 4, 4)
		for _, behind := range [][]int{nil, {0}, {4}, {1}, {0, 0}, {4, 5}, {5, 3}, {7, 0, 4, 1, 0, 9}} {
			shards := append(slices.Clone(data), shardsOf(behind...)...)
			for _, size := range []int{-1, 0, 1, 11, 12, 13, 16} {
				joinAgrees(t, s, shards, size)
			}
		}
	}
}

func TestJoinRefusesParameters(t *testing.T) {
	for _, s := range wrongSettings() {
		for _, list := range [][]int{nil, {0}, {1}, {1, 2}, {2, 2, 2}, {0, 0, 0}} {
			for _, size := range []int{-1, 0, 1, 100} {
				joinAgrees(t, s, shardsOf(list...), size)
			}
		}
	}
}

// Of the greatest sets, with one great shard's memory everywhere, few bytes are joined soon.
func TestJoinOfAFewBytesOfMany(t *testing.T) {
	shard := make([]byte, 1<<26)
	shard[0], shard[4] = 5, 6
	shards := slices.Repeat([][]byte{shard}, 65535)
	for range 100 {
		data, e := Join(api.Long, 65535, 1, shards, 5)
		if e != api.OK || !bytes.Equal(data, []byte{5, 0, 0, 0, 6}) {
			t.Fatalf("Join = %v, %d", data, e)
		}
		data, e = Join(api.Long, 65535, 1, shards, 65535<<26+1)
		if e != api.ErrJoin || len(data) != 0 {
			t.Fatalf("Join of more than all = %d bytes, %d", len(data), e)
		}
	}
}
