package gener

import (
	"fmt"
	"testing"

	"cullet/api"
)

func forms(call string, f api.Family, k, m int) string {
	return fmt.Sprintf("%s(%d, %d, %d)", call, f, k, m)
}

// P11.1

func TestParityExamples(t *testing.T) {
	for _, c := range []struct {
		f    api.Family
		k, m int
		want grid
	}{
		{api.Vander, 1, 3, grid{{1}, {1}, {1}}},
		{api.Vander, 2, 1, grid{{3, 2}}},
		{api.Cauchy, 2, 1, grid{{142, 244}}},
		{api.Vander, 1, 1, grid{{1}}},
		{api.Cauchy, 1, 1, grid{{1}}},
		{api.Cauchy, 1, 2, grid{{1}, {142}}},
		{api.Vander, 2, 2, grid{{3, 2}, {2, 3}}},
	} {
		rows, e := Parity(c.f, c.k, c.m)
		wants(t, forms("Parity", c.f, c.k, c.m), rows, e, c.want)
	}
}

// The factors of each data shard in each parity shard: Lagrange's products, and the inverses.
func TestParityByTheDefinition(t *testing.T) {
	for _, f := range families() {
		for _, p := range params() {
			rows, e := Parity(f, p[0], p[1])
			wants(t, forms("Parity", f, p[0], p[1]), rows, e, parityOf(f, p[0], p[1]))
		}
	}
}

// Of a line through two points, worked out by hand: the value at x is a + x(a + b).
func TestParityOfLines(t *testing.T) {
	rows, e := Parity(api.Vander, 2, 254)
	if e != api.OK || len(rows) != 254 {
		t.Fatalf("Parity(Vander, 2, 254) = %d rows, %d", len(rows), e)
	}
	for j, row := range rows {
		x := byte(2 + j)
		if len(row) != 2 || row[0] != 1^x || row[1] != x {
			t.Errorf("Parity(Vander, 2, 254), row %d = %v", j, row)
		}
	}
}

// The powers of the points are codewords of Vander: each parity row, times the first rows of a Vandermonde matrix, is a later row.
func TestParityOfVanderIsOfAVandermondeMatrix(t *testing.T) {
	for _, p := range params() {
		k, m := p[0], p[1]
		v := vandermonde(k+m, k)
		rows, e := Parity(api.Vander, k, m)
		if e != api.OK || len(rows) != m {
			t.Fatalf("%s = %d rows, %d", forms("Parity", api.Vander, k, m), len(rows), e)
		}
		wants(t, forms("the head times Parity", api.Vander, k, m), timesOf(rows, v[:k]), api.OK, v[k:])
	}
}

// At every k with the greatest m: parity made by the factors is that of codewords.
func TestParityOfCodewords(t *testing.T) {
	d := dice(1)
	for _, f := range families() {
		for k := 1; k <= 255; k++ {
			m := 256 - k
			rows, e := Parity(f, k, m)
			if e != api.OK || len(rows) != m {
				t.Fatalf("%s = %d rows, %d", forms("Parity", f, k, m), len(rows), e)
			}
			points := firstOf(k)
			for range 2 {
				column := d.codeword(f, k, m)
				for j, row := range rows {
					if len(row) != k || sumOf(row, column, points) != column[k+j] {
						t.Fatalf("%s: the row %d isn't a codeword's", forms("Parity", f, k, m), j)
					}
				}
			}
		}
	}
}

func TestParityOfCauchyIsInverses(t *testing.T) {
	for k := 1; k <= 255; k++ {
		for _, m := range []int{1, (256 - k + 1) / 2, 256 - k} {
			rows, e := Parity(api.Cauchy, k, m)
			wants(t, forms("Parity", api.Cauchy, k, m), rows, e, parityOf(api.Cauchy, k, m))
		}
	}
}

// How many parity shards are behind it doesn't change a parity shard.
func TestParityOfFewerShards(t *testing.T) {
	for _, f := range families() {
		for _, k := range []int{1, 2, 3, 10, 100, 200} {
			all, _ := Parity(f, k, 256-k)
			for _, m := range []int{1, 2, 3, 55} {
				rows, e := Parity(f, k, m)
				wants(t, forms("Parity", f, k, m), rows, e, all[:m])
			}
		}
	}
}

// No factor is 0: a parity shard hangs on each data shard.
func TestParityHasNoZeros(t *testing.T) {
	for _, f := range families() {
		for _, p := range params() {
			rows, _ := Parity(f, p[0], p[1])
			for j, row := range rows {
				for i, factor := range row {
					if factor == 0 {
						t.Errorf("%s: 0 at (%d, %d)", forms("Parity", f, p[0], p[1]), j, i)
					}
				}
			}
		}
	}
}

func TestParityRefuses(t *testing.T) {
	for _, f := range families() {
		for _, p := range wrongParams() {
			rows, e := Parity(f, p[0], p[1])
			refuses(t, forms("Parity", f, p[0], p[1]), rows, e, api.ErrParams)
		}
	}
	for _, f := range strangers() {
		for _, p := range append(wrongParams(), [2]int{1, 1}, [2]int{2, 1}, [2]int{128, 128}) {
			rows, e := Parity(f, p[0], p[1])
			refuses(t, forms("Parity", f, p[0], p[1]), rows, e, api.ErrFamily)
		}
	}
}

// k and m that are 255, 256 and 257 together.
func TestParityAtTheLimit(t *testing.T) {
	for _, f := range families() {
		for k := 1; k <= 254; k++ {
			for sum := 255; sum <= 256; sum++ {
				rows, e := Parity(f, k, sum-k)
				if e != api.OK || len(rows) != sum-k || len(rows[0]) != k {
					t.Errorf("%s = %v, %d", forms("Parity", f, k, sum-k), short(rows), e)
				}
			}
			rows, e := Parity(f, k, 257-k)
			refuses(t, forms("Parity", f, k, 257-k), rows, e, api.ErrParams)
		}
	}
}

// P11.2

func TestGeneratorExamples(t *testing.T) {
	rows, e := Generator(api.Vander, 2, 1)
	wants(t, "Generator(Vander, 2, 1)", rows, e, grid{{1, 0}, {0, 1}, {3, 2}})
	rows, e = Generator(api.Cauchy, 2, 1)
	wants(t, "Generator(Cauchy, 2, 1)", rows, e, grid{{1, 0}, {0, 1}, {142, 244}})
	rows, e = Generator(api.Vander, 1, 1)
	wants(t, "Generator(Vander, 1, 1)", rows, e, grid{{1}, {1}})
}

func TestGeneratorIsTheIdentityAndParity(t *testing.T) {
	for _, f := range families() {
		for _, p := range params() {
			k, m := p[0], p[1]
			rows, e := Generator(f, k, m)
			wants(t, forms("Generator", f, k, m), rows, e, append(one(k), parityOf(f, k, m)...))
		}
	}
}

// Of Vander it is the systematic form of a Vandermonde matrix.
func TestGeneratorOfVanderIsSystematic(t *testing.T) {
	for _, p := range params() {
		rows, e := Generator(api.Vander, p[0], p[1])
		form, es := Systematic(vandermonde(p[0]+p[1], p[0]))
		if es != api.OK {
			t.Fatalf("Systematic of a Vandermonde matrix: %d", es)
		}
		wants(t, forms("Generator", api.Vander, p[0], p[1]), rows, e, form)
	}
}

func TestGeneratorRefuses(t *testing.T) {
	for _, f := range families() {
		for _, p := range wrongParams() {
			rows, e := Generator(f, p[0], p[1])
			refuses(t, forms("Generator", f, p[0], p[1]), rows, e, api.ErrParams)
		}
	}
	for _, f := range strangers() {
		for _, p := range append(wrongParams(), [2]int{1, 1}, [2]int{2, 1}, [2]int{128, 128}) {
			rows, e := Generator(f, p[0], p[1])
			refuses(t, forms("Generator", f, p[0], p[1]), rows, e, api.ErrFamily)
		}
	}
}

func TestGeneratorAtTheLimit(t *testing.T) {
	for _, f := range families() {
		for _, k := range []int{1, 2, 100, 128, 254, 255} {
			rows, e := Generator(f, k, 256-k)
			if e != api.OK || len(rows) != 256 || len(rows[255]) != k {
				t.Errorf("%s = %v, %d", forms("Generator", f, k, 256-k), short(rows), e)
			}
			rows, e = Generator(f, k, 257-k)
			refuses(t, forms("Generator", f, k, 257-k), rows, e, api.ErrParams)
		}
	}
}

// P11.3

func TestSystematicExamples(t *testing.T) {
	for _, c := range []struct{ a, want grid }{
		{grid{{1, 0}, {1, 1}, {1, 2}}, grid{{1, 0}, {0, 1}, {3, 2}}},
		{grid{{0, 1}, {1, 0}, {5, 7}}, grid{{1, 0}, {0, 1}, {7, 5}}},
		{grid{{1}}, grid{{1}}},
		{grid{{2}}, grid{{1}}},
		{grid{{2}, {4}, {0}}, grid{{1}, {2}, {0}}},
	} {
		rows, e := Systematic(c.a)
		wants(t, fmt.Sprintf("Systematic(%v)", c.a), rows, e, c.want)
	}
}

// The answer times the head is the matrix, and its own head is the identity: there is one such answer.
func TestSystematicTimesTheHead(t *testing.T) {
	d := dice(2)
	for _, c := range [][2]int{{1, 1}, {2, 1}, {256, 1}, {2, 2}, {3, 2}, {3, 3}, {9, 4}, {40, 17}, {64, 64}, {255, 100}, {256, 128}, {256, 255}, {256, 256}} {
		n := c[1]
		a := append(d.regular(n), d.mixed(c[0]-n, n)...)
		rows, e := Systematic(a)
		if e != api.OK || len(rows) != c[0] || len(rows[0]) != n {
			t.Fatalf("Systematic of %v = %v, %d", c, short(rows), e)
		}
		wants(t, fmt.Sprintf("the head of Systematic of %v", c), rows[:n], e, one(n))
		wants(t, fmt.Sprintf("Systematic of %v times the head", c), timesOf(rows, a[:n]), e, a)
	}
}

// A square becomes the identity, and what is systematic stays.
func TestSystematicOfWhatNeedsNothing(t *testing.T) {
	d := dice(3)
	for _, n := range []int{1, 2, 3, 10, 50} {
		rows, e := Systematic(d.regular(n))
		wants(t, fmt.Sprintf("Systematic of a square of %d", n), rows, e, one(n))
		a := append(one(n), d.mixed(n+3, n)...)
		rows, e = Systematic(a)
		wants(t, fmt.Sprintf("Systematic of a form of %d columns", n), rows, e, a)
	}
}

// A matrix times any square that has an inverse has the same systematic form.
func TestSystematicForgetsASquare(t *testing.T) {
	d := dice(4)
	for _, n := range []int{1, 2, 5, 20} {
		a := append(one(n), d.mixed(7, n)...)
		rows, e := Systematic(timesOf(a, d.regular(n)))
		wants(t, fmt.Sprintf("Systematic of a product, %d columns", n), rows, e, a)
	}
}

func TestSystematicOfNoMatrix(t *testing.T) {
	for i, a := range formless() {
		rows, e := Systematic(a)
		refuses(t, fmt.Sprintf("Systematic of the formless matrix %d", i), rows, e, api.ErrShape)
	}
}

func TestSystematicOfTooFewRows(t *testing.T) {
	d := dice(5)
	for _, a := range []grid{{{1, 2}}, {{0, 0}}, {{1, 0, 0}, {0, 1, 0}}, {{0, 0, 0}, {0, 0, 0}}, {{1, 1, 1}, {1, 1, 1}}, blank(1, 512), d.mixed(255, 256), d.mixed(256, 257), d.mixed(256, 512)} {
		rows, e := Systematic(a)
		refuses(t, fmt.Sprintf("Systematic of %v", short(a)), rows, e, api.ErrDims)
	}
}

// It is the first rows that count, not the rank: rows behind them don't help.
func TestSystematicOfASingularHead(t *testing.T) {
	d := dice(6)
	great := append(d.regular(255), nil)
	for r := range great[:255] {
		great[r] = append(great[r], byte(r))
	}
	great[255] = append([]byte{}, great[100]...)
	for i, a := range []grid{
		{{1, 1}, {1, 1}}, {{0}}, {{0}, {1}}, {{0, 0}, {1, 0}, {0, 1}}, {{1, 0}, {0, 0}, {0, 1}}, {{1, 0}, {1, 0}, {0, 1}},
		{{1, 2}, {2, 4}, {1, 0}, {0, 1}}, {{1, 2, 3}, {4, 5, 6}, {5, 7, 5}}, {{1, 2, 3}, {4, 5, 6}, {5, 7, 5}, {1, 0, 0}},
		blank(256, 256), blank(256, 1), great,
	} {
		rows, e := Systematic(a)
		refuses(t, fmt.Sprintf("Systematic of the singular head %d", i), rows, e, api.ErrSingular)
	}
}
