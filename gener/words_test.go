package gener

import (
	"fmt"
	"math"
	"testing"

	"cullet/api"
)

func formOf(k, m, j int) string { return fmt.Sprintf("Words(%d, %d, %d)", k, m, j) }

// formulas: the row by the chapter's formula.
func formulas(k, m, j int) []uint16 {
	row := make([]uint16, k)
	for i := range row {
		row[i] = long.formula(m, i, j)
	}
	return row
}

// The tests' own field: the products by logarithms are those bit by bit, and the basis has the chapter's first and last elements.
func TestTheTestsOwnField(t *testing.T) {
	d := dice(10)
	for range 20000 {
		a, b := d.next(65536), d.next(65536)
		if p := long.mul(uint16(a), uint16(b)); int(p) != product(a, b, 16, 0x1002D) {
			t.Fatalf("%x times %x = %x", a, b, p)
		}
		if b != 0 && long.mul(long.div(uint16(a), uint16(b)), uint16(b)) != uint16(a) {
			t.Fatalf("%x by %x", a, b)
		}
	}
	if long.w[1] != 1 || long.w[2] != 0xACCA || long.w[4] != 0x3C0E || long.w[8] != 0x163E || long.w[1<<15] != 0x991E || long.w[5] != 0x3C0F {
		t.Errorf("the basis: %x", long.w[:9])
	}
}

// P11.4

func TestWordsExamples(t *testing.T) {
	for _, c := range []struct {
		k, m, j int
		want    []uint16
	}{
		{1, 1, 0, []uint16{1}},
		{3, 1, 0, []uint16{1, 1, 1}},
		{2, 2, 0, []uint16{0xACCB, 0xACCA}},
		{2, 2, 1, []uint16{0xACCA, 0xACCB}},
	} {
		row, e := Words(c.k, c.m, c.j)
		wantsList(t, formOf(c.k, c.m, c.j), row, e, c.want)
	}
	row, e := Words(1, 1, 1)
	refuses(t, "Words(1, 1, 1)", row, e, api.ErrRange)
}

func TestWordsBySmallFormulas(t *testing.T) {
	for k := 1; k <= 20; k++ {
		for m := 1; m <= 20; m++ {
			for j := range m {
				row, e := Words(k, m, j)
				wantsList(t, formOf(k, m, j), row, e, formulas(k, m, j))
			}
		}
	}
}

// Powers of two, one below and one above, with the greatest k and about the number from which the tables serve.
func TestWordsByGreatFormulas(t *testing.T) {
	for u := range 16 {
		for _, m := range []int{1<<u - 1, 1 << u, 1<<u + 1} {
			if m < 1 || m > 32768 {
				continue
			}
			size := 1
			for size < m {
				size *= 2
			}
			for _, k := range []int{1, 1000, 2047, 2048, 2049, 65536 - size} {
				for _, j := range []int{0, m / 2, m - 1} {
					row, e := Words(k, m, j)
					wantsList(t, formOf(k, m, j), row, e, formulas(k, m, j))
				}
			}
		}
	}
}

// The row of fewer data shards is a beginning of the row of more.
func TestWordsOfFewerData(t *testing.T) {
	all, _ := Words(5000, 37, 11)
	for k := 1; k <= 5000; k += 61 {
		row, e := Words(k, 37, 11)
		wantsList(t, formOf(k, 37, 11), row, e, all[:k])
	}
}

// Each row is the value at w(j) of the polynomial that has 1 at one datum's point and 0 at the others, the points without a shard included; a greater N makes no difference.
func TestWordsByInterpolation(t *testing.T) {
	for k := 1; k <= 12; k++ {
		for m := 1; m <= 12; m++ {
			size := 1
			for size < m {
				size *= 2
			}
			end := 1
			for end < size+k {
				end *= 2
			}
			for j := range m {
				want, greater := make([]uint16, k), make([]uint16, k)
				for i := range want {
					want[i] = long.interpolated(size, end, i, j)
					greater[i] = long.interpolated(size, 4*end, i, j)
				}
				row, e := Words(k, m, j)
				wantsList(t, formOf(k, m, j), row, e, want)
				wantsList(t, formOf(k, m, j)+" with a greater N", row, e, greater)
			}
		}
	}
}

// Great codes, by interpolation at a factor here and there.
func TestWordsByInterpolationAtGreatOnes(t *testing.T) {
	d := dice(11)
	for _, c := range []struct{ k, m, size, end int }{{200, 100, 128, 512}, {1000, 24, 32, 2048}, {3000, 1025, 2048, 8192}, {65535, 1, 1, 65536}, {32768, 32768, 32768, 65536}, {32768, 16385, 32768, 65536}} {
		for range 2 {
			i, j := d.next(c.k), d.next(c.m)
			row, e := Words(c.k, c.m, j)
			if e != api.OK || len(row) != c.k || row[i] != long.interpolated(c.size, c.end, i, j) {
				t.Errorf("%s at %d = %s, %d", formOf(c.k, c.m, j), i, few(row), e)
			}
		}
	}
}

// With one parity shard it is the sum of the data.
func TestWordsOfOneParity(t *testing.T) {
	row, e := Words(65535, 1, 0)
	if e != api.OK || len(row) != 65535 {
		t.Fatalf("Words(65535, 1, 0) = %d factors, %d", len(row), e)
	}
	for i, factor := range row {
		if factor != 1 {
			t.Fatalf("Words(65535, 1, 0) at %d = %d", i, factor)
		}
	}
}

// Any k of k + m shards determine the others: no determinant of as many parity rows as lost data is 0. Here of two by two and three by three.
func TestWordsOfAnyShards(t *testing.T) {
	const k, m = 6, 5
	var rows [m][]uint16
	for j := range rows {
		rows[j], _ = Words(k, m, j)
		if len(rows[j]) != k {
			t.Fatalf("Words(%d, %d, %d) = %v", k, m, j, rows[j])
		}
	}
	minor := func(a, b, x, y int) uint16 {
		return long.mul(rows[a][x], rows[b][y]) ^ long.mul(rows[a][y], rows[b][x])
	}
	for a := range m {
		for b := a + 1; b < m; b++ {
			for x := range k {
				for y := x + 1; y < k; y++ {
					if minor(a, b, x, y) == 0 {
						t.Errorf("parity %d and %d don't give data %d and %d back", a, b, x, y)
					}
					for c := b + 1; c < m; c++ {
						for z := y + 1; z < k; z++ {
							if long.mul(rows[c][z], minor(a, b, x, y))^long.mul(rows[c][y], minor(a, b, x, z))^long.mul(rows[c][x], minor(a, b, y, z)) == 0 {
								t.Errorf("parity %d, %d, %d don't give data %d, %d, %d back", a, b, c, x, y, z)
							}
						}
					}
				}
			}
		}
	}
}

func TestWordsOfNoParams(t *testing.T) {
	list := [][2]int{{0, 0}, {0, 1}, {1, 0}, {-1, 1}, {1, -1}, {-1, -1}, {0, 65537}, {65537, 0}, {1, 65535}, {1, 65536}, {1, 65537}, {1, 32769}, {32767, 32769}, {2, 40000}, {65536, 1}, {65537, 1}, {65535, 2}, {65533, 3}, {65533, 4}, {65529, 5}, {65529, 8}, {49153, 16384}, {49153, 16383}, {49152, 16385}, {32769, 32768}, {32769, 16385}, {math.MaxInt, math.MaxInt}, {math.MaxInt, math.MinInt}, {math.MinInt, math.MinInt}, {1 << 62, 1 << 62}, {math.MaxInt - 65535, 65536}, {math.MaxInt, 32768}}
	for _, n := range ends() {
		for _, other := range []int{-1, 0, 1, 2, 32768, 65535, 65536} {
			list = append(list, [2]int{n, other}, [2]int{other, n})
		}
	}
	for _, p := range list {
		for _, j := range append(ends(), -1, 0, 1, p[1]-1, p[1]) {
			row, e := Words(p[0], p[1], j)
			refuses(t, formOf(p[0], p[1], j), row, e, api.ErrParams)
		}
	}
}

func TestWordsAtTheLimits(t *testing.T) {
	for _, p := range [][2]int{{65535, 1}, {65534, 2}, {65532, 3}, {65532, 4}, {65528, 5}, {65528, 8}, {49152, 16384}, {49152, 16383}, {32768, 16385}, {32768, 32767}, {32768, 32768}, {1, 32768}} {
		for _, j := range []int{0, p[1] - 1} {
			row, e := Words(p[0], p[1], j)
			if e != api.OK || len(row) != p[0] {
				t.Errorf("%s = %d factors, %d", formOf(p[0], p[1], j), len(row), e)
			}
		}
	}
}

func TestWordsOfNoParity(t *testing.T) {
	for _, p := range [][2]int{{1, 1}, {2, 1}, {3, 3}, {4, 4}, {5, 5}, {1000, 1000}, {65535, 1}, {32768, 32768}, {32768, 16385}} {
		for _, j := range append(ends(), -1, -p[1], p[1], p[1]+1, 65535, 65536) {
			row, e := Words(p[0], p[1], j)
			refuses(t, formOf(p[0], p[1], j), row, e, api.ErrRange)
		}
	}
}
