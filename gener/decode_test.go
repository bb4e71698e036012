package gener

import (
	"fmt"
	"math"
	"slices"
	"testing"

	"cullet/api"
)

// wrongLists: lists that aren't lists of numbers below n, n at least 2.
func wrongLists(n int) [][]int {
	lists := [][]int{{-1}, {n}, {n + 1}, {math.MinInt}, {math.MaxInt}, {0, 0}, {1, 0}, {1, 1}, {0, n}, {-1, 0}, {0, -1}, {0, 1, 1}, {0, 1, 0}, {0, 1, n}, {n - 1, n}, {n - 2, n - 1, n}, {n - 1, n - 1}, {n - 1, n - 2}, {math.MinInt, 0}, {0, math.MaxInt}, {math.MaxInt, math.MinInt}, {math.MaxInt, 0}, {math.MinInt, math.MinInt + 1}, {-2, -1}}
	whole := firstOf(n)
	lists = append(lists, append(slices.Clone(whole), n), append(slices.Clone(whole), n-1), append([]int{-1}, whole...), append([]int{0}, whole...), append(slices.Clone(whole), whole...))
	falling := slices.Clone(whole)
	slices.Reverse(falling)
	return append(lists, falling, make([]int, n), make([]int, 3*n))
}

// P11.5

func TestLostExamples(t *testing.T) {
	for _, c := range []struct {
		n             int
		present, want []int
	}{
		{4, []int{1, 2}, []int{0, 3}},
		{0, nil, nil},
		{0, []int{}, nil},
		{1, nil, []int{0}},
		{1, []int{0}, nil},
		{3, nil, []int{0, 1, 2}},
		{3, []int{}, []int{0, 1, 2}},
		{3, []int{2}, []int{0, 1}},
		{3, []int{0, 1, 2}, nil},
	} {
		list, e := Lost(c.n, c.present)
		wantsList(t, fmt.Sprintf("Lost(%d, %v)", c.n, c.present), list, e, c.want)
	}
}

// Of every choice of small numbers: what isn't chosen; and what that leaves is what was chosen.
func TestLostOfEveryChoice(t *testing.T) {
	for n := range 11 {
		all := 1<<n - 1
		for set := range 1 << n {
			list, e := Lost(n, chosen(set))
			wantsList(t, fmt.Sprintf("Lost(%d, %v)", n, chosen(set)), list, e, chosen(all&^set))
			back, e := Lost(n, list)
			wantsList(t, fmt.Sprintf("Lost(%d, %v)", n, list), back, e, chosen(set))
		}
	}
}

func TestLostOfGreatNumbers(t *testing.T) {
	d := dice(20)
	for _, n := range []int{255, 256, 257, 1000, 65535, 65536} {
		for _, count := range []int{0, 1, n / 2, n - 1, n} {
			present := d.some(n, count)
			there := make([]int, n)
			for _, s := range present {
				there[s] = 1
			}
			var want []int
			for s, here := range there {
				if here == 0 {
					want = append(want, s)
				}
			}
			list, e := Lost(n, present)
			wantsList(t, fmt.Sprintf("Lost(%d, %d of them)", n, count), list, e, want)
		}
	}
}

func TestLostOfNoNumber(t *testing.T) {
	for _, n := range append(ends(), -1, 65537) {
		for _, present := range [][]int{nil, {}, {0}, {-1}, {1, 1}, {n}, {n - 1}, {65536}, make([]int, 100), firstOf(65537)} {
			list, e := Lost(n, present)
			refuses(t, fmt.Sprintf("Lost(%d, %s)", n, few(present)), list, e, api.ErrRange)
		}
	}
}

func TestLostOfNoList(t *testing.T) {
	for _, n := range []int{2, 3, 4, 256, 65535, 65536} {
		for _, present := range wrongLists(n) {
			list, e := Lost(n, present)
			refuses(t, fmt.Sprintf("Lost(%d, %s)", n, few(present)), list, e, api.ErrRow)
		}
	}
	for _, present := range [][]int{{0}, {-1}, {1}, {0, 0}, {math.MinInt}, {math.MaxInt}} {
		list, e := Lost(0, present)
		refuses(t, fmt.Sprintf("Lost(0, %v)", present), list, e, api.ErrRow)
	}
	for _, present := range [][]int{{1}, {-1}, {0, 0}, {0, 1}, {-1, 0}} {
		list, e := Lost(1, present)
		refuses(t, fmt.Sprintf("Lost(1, %v)", present), list, e, api.ErrRow)
	}
}

// P11.6

func decoderForm(f api.Family, k, m int, present, want []int) string {
	return fmt.Sprintf("Decoder(%d, %d, %d, %s, %s)", f, k, m, few(present), few(want))
}

func TestDecoderExamples(t *testing.T) {
	for _, c := range []struct {
		f             api.Family
		k, m          int
		present, want []int
		rows          grid
	}{
		{api.Vander, 2, 1, []int{1, 2}, []int{0}, grid{{245, 244}}},
		{api.Vander, 2, 1, []int{0, 1, 2}, []int{2}, grid{{3, 2}}},
		{api.Vander, 2, 1, []int{0, 2}, []int{0, 2}, grid{{1, 0}, {0, 1}}},
		{api.Vander, 2, 1, []int{0, 2}, nil, nil},
		{api.Vander, 2, 1, []int{0, 2}, []int{}, nil},
		{api.Cauchy, 2, 1, []int{0, 1}, []int{2}, grid{{142, 244}}},
		{api.Cauchy, 1, 1, []int{1}, []int{0, 1}, grid{{1}, {1}}},
		{api.Vander, 1, 3, []int{3}, []int{0, 1, 2, 3}, grid{{1}, {1}, {1}, {1}}},
		{api.Cauchy, 1, 2, []int{2}, []int{0}, grid{{2}}},
	} {
		rows, e := Decoder(c.f, c.k, c.m, c.present, c.want)
		wants(t, decoderForm(c.f, c.k, c.m, c.present, c.want), rows, e, c.rows)
	}
	rows, e := Decoder(api.Vander, 2, 1, []int{2}, []int{0})
	refuses(t, "Decoder(Vander, 2, 1, [2], [0])", rows, e, api.ErrTooFew)
	rows, e = Decoder(api.Vander, 2, 1, []int{0, 3}, nil)
	refuses(t, "Decoder(Vander, 2, 1, [0 3], nothing)", rows, e, api.ErrRow)
}

// checkDecoder: the rows, times the first k of present, give the shards that are wanted, of so many codewords; and a shard that is among the first k is just itself.
func checkDecoder(t *testing.T, d *dice, f api.Family, k, m int, present, want []int, codewords int) {
	t.Helper()
	rows, e := Decoder(f, k, m, present, want)
	if e != api.OK || len(rows) != len(want) {
		t.Fatalf("%s = %v, %d", decoderForm(f, k, m, present, want), short(rows), e)
	}
	for r, row := range rows {
		if len(row) != k {
			t.Fatalf("%s: the row %d has %d factors", decoderForm(f, k, m, present, want), r, len(row))
		}
		if at := slices.Index(present[:k], want[r]); at >= 0 && !slices.Equal(row, one(k)[at]) {
			t.Errorf("%s: the row of %d, which is present, is %v", decoderForm(f, k, m, present, want), want[r], row)
		}
	}
	for range codewords {
		column := d.codeword(f, k, m)
		for r, row := range rows {
			if sumOf(row, column, present) != column[want[r]] {
				t.Fatalf("%s: the row of %d doesn't give it back", decoderForm(f, k, m, present, want), want[r])
			}
		}
	}
}

// Every choice of k shards or more, of small codes; all shards are wanted.
func TestDecoderOfEveryChoice(t *testing.T) {
	d := dice(21)
	for _, f := range families() {
		for n := 2; n <= 8; n++ {
			for k := 1; k < n; k++ {
				for set := range 1 << n {
					if present := chosen(set); len(present) >= k {
						checkDecoder(t, &d, f, k, n-k, present, firstOf(n), 12)
					}
				}
			}
		}
	}
}

// One codeword for each datum that is 1 while the others are 0: with them the factors are the only ones, and so the row is right for all codewords.
func TestDecoderIsTheOnlyOne(t *testing.T) {
	for _, f := range families() {
		for _, p := range [][2]int{{1, 5}, {2, 4}, {3, 3}, {4, 3}, {5, 1}} {
			k, n := p[0], p[0]+p[1]
			generator := append(one(k), parityOf(f, k, p[1])...)
			for set := range 1 << n {
				present := chosen(set)
				if len(present) != k {
					continue
				}
				var used grid
				for _, s := range present {
					used = append(used, generator[s])
				}
				rows, e := Decoder(f, k, p[1], present, firstOf(n))
				if e != api.OK || len(rows) != n {
					t.Fatalf("%s = %v, %d", decoderForm(f, k, p[1], present, firstOf(n)), short(rows), e)
				}
				wants(t, "the generator's rows by "+decoderForm(f, k, p[1], present, firstOf(n)), timesOf(rows, used), e, generator)
			}
		}
	}
}

// Of Vander the factors are Lagrange's, with the present shards' numbers as points.
func TestDecoderOfVanderIsLagrange(t *testing.T) {
	d := dice(22)
	for _, p := range [][2]int{{1, 1}, {2, 3}, {5, 5}, {10, 4}, {30, 30}, {100, 156}} {
		k, n := p[0], p[0]+p[1]
		for range 5 {
			present := d.some(n, k)
			want := make(grid, n)
			for s := range want {
				for i := range present {
					want[s] = append(want[s], weight(present, i, s))
				}
			}
			rows, e := Decoder(api.Vander, k, p[1], present, firstOf(n))
			wants(t, decoderForm(api.Vander, k, p[1], present, firstOf(n)), rows, e, want)
		}
	}
}

func TestDecoderOfGreatCodes(t *testing.T) {
	d := dice(23)
	for _, f := range families() {
		for _, p := range [][2]int{{1, 255}, {255, 1}, {128, 128}, {200, 56}, {254, 2}, {17, 3}, {100, 155}} {
			k, n := p[0], p[0]+p[1]
			checkDecoder(t, &d, f, k, p[1], firstOf(n)[n-k:], firstOf(n), 2)
			checkDecoder(t, &d, f, k, p[1], firstOf(n)[:k], firstOf(n), 2)
			checkDecoder(t, &d, f, k, p[1], d.some(n, k), firstOf(n), 2)
			checkDecoder(t, &d, f, k, p[1], d.some(n, k+1), d.some(n, 1), 2)
			checkDecoder(t, &d, f, k, p[1], firstOf(n), d.some(n, n/2), 2)
		}
	}
}

// What stands in present behind the first k doesn't count, and a number of them is wanted as any other.
func TestDecoderTakesTheFirst(t *testing.T) {
	d := dice(24)
	for _, f := range families() {
		for _, p := range [][2]int{{1, 4}, {3, 5}, {10, 10}, {60, 40}} {
			k, n := p[0], p[0]+p[1]
			for more := 1; more <= p[1]; more += 3 {
				present := d.some(n, k+more)
				for _, want := range [][]int{firstOf(n), present, present[k:], d.some(n, n/2)} {
					few, _ := Decoder(f, k, p[1], present[:k:k], want)
					rows, e := Decoder(f, k, p[1], present, want)
					wants(t, decoderForm(f, k, p[1], present, want), rows, e, few)
				}
			}
		}
	}
}

// Each row hangs on its own number, not on the others that are wanted.
func TestDecoderRowByRow(t *testing.T) {
	d := dice(25)
	for _, f := range families() {
		for range 10 {
			present, want := d.some(12, 7), d.some(12, 1+d.next(12))
			rows, e := Decoder(f, 7, 5, present, want)
			if e != api.OK || len(rows) != len(want) {
				t.Fatalf("%s = %v, %d", decoderForm(f, 7, 5, present, want), short(rows), e)
			}
			for r, s := range want {
				row, e := Decoder(f, 7, 5, present, []int{s})
				wants(t, decoderForm(f, 7, 5, present, []int{s}), row, e, rows[r:r+1])
			}
		}
	}
}

// With the data present, the rows of the parity are Parity's.
func TestDecoderOfTheData(t *testing.T) {
	for _, f := range families() {
		for _, p := range params() {
			k, n := p[0], p[0]+p[1]
			rows, e := Decoder(f, k, p[1], firstOf(k), firstOf(n)[k:])
			wants(t, decoderForm(f, k, p[1], firstOf(k), firstOf(n)[k:]), rows, e, parityOf(f, k, p[1]))
		}
	}
}

func TestDecoderOfNothingWanted(t *testing.T) {
	for _, f := range families() {
		for _, want := range [][]int{nil, {}, make([]int, 0, 5)} {
			for _, present := range [][]int{{0, 1, 2}, {2, 3, 4}, {0, 1, 2, 3, 4}} {
				rows, e := Decoder(f, 3, 2, present, want)
				wants(t, decoderForm(f, 3, 2, present, want), rows, e, nil)
			}
		}
	}
}

func TestDecoderOfTooFew(t *testing.T) {
	d := dice(26)
	for _, f := range families() {
		for _, p := range [][2]int{{1, 1}, {2, 1}, {3, 4}, {255, 1}, {128, 128}} {
			k, n := p[0], p[0]+p[1]
			for _, count := range []int{0, k / 2, k - 1} {
				for _, want := range [][]int{nil, {0}, {n - 1}, firstOf(n)} {
					present := d.some(n, count)
					rows, e := Decoder(f, k, p[1], present, want)
					refuses(t, decoderForm(f, k, p[1], present, want), rows, e, api.ErrTooFew)
				}
			}
		}
		rows, e := Decoder(f, 1, 1, nil, nil)
		refuses(t, "Decoder of nothing", rows, e, api.ErrTooFew)
	}
}

// A list that is none is told wherever it stands, behind the first k of present too, and however few are present.
func TestDecoderOfNoLists(t *testing.T) {
	for _, f := range families() {
		for _, p := range [][2]int{{1, 1}, {2, 1}, {1, 2}, {3, 2}, {128, 128}} {
			k, n := p[0], p[0]+p[1]
			good := [][]int{nil, {}, {0}, firstOf(k), firstOf(n)}
			for _, bad := range wrongLists(n) {
				for _, other := range append(good, bad) {
					rows, e := Decoder(f, k, p[1], bad, other)
					refuses(t, decoderForm(f, k, p[1], bad, other), rows, e, api.ErrRow)
					rows, e = Decoder(f, k, p[1], other, bad)
					refuses(t, decoderForm(f, k, p[1], other, bad), rows, e, api.ErrRow)
				}
			}
		}
	}
}

func TestDecoderOfNoParams(t *testing.T) {
	lists := [][]int{nil, {0}, {0, 1}, {1, 0}, {-1}, {math.MaxInt}}
	for _, present := range lists {
		for _, want := range lists {
			for _, p := range wrongParams() {
				for _, f := range families() {
					rows, e := Decoder(f, p[0], p[1], present, want)
					refuses(t, decoderForm(f, p[0], p[1], present, want), rows, e, api.ErrParams)
				}
			}
			for _, f := range strangers() {
				for _, p := range [][2]int{{1, 1}, {2, 1}, {0, 0}, {257, 1}, {math.MaxInt, math.MaxInt}} {
					rows, e := Decoder(f, p[0], p[1], present, want)
					refuses(t, decoderForm(f, p[0], p[1], present, want), rows, e, api.ErrFamily)
				}
			}
		}
	}
}
