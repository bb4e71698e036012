package matrix

import (
	"bytes"
	"math"
	"slices"
	"testing"

	"cullet/api"
)

// What the tests hold the package against is worked out here by the chapter's words, without a call of the package or of the layers below: products bit by bit, determinants as sums over all choices, spans by a basis of leading cells.

type grid = [][]byte

// products: at a, b the product of a and b. inverses: of every element but 0.
var (
	products = everyProduct()
	inverses = everyInverse()
)

func everyProduct() [256][256]byte {
	var all [256][256]byte
	for a := range all {
		for b := range all[a] {
			all[a][b] = product(byte(a), byte(b))
		}
	}
	return all
}

// product: the remainder by 0x11D of the product of two polynomials, the whole product first.
func product(a, b byte) byte {
	whole := 0
	for i := range 8 {
		for j := range 8 {
			whole ^= int(a>>i&1&(b>>j&1)) << (i + j)
		}
	}
	for i := 14; i >= 8; i-- {
		if whole>>i&1 == 1 {
			whole ^= 0x11D << (i - 8)
		}
	}
	return byte(whole)
}

func everyInverse() [256]byte {
	var all [256]byte
	for a := range 256 {
		for b := range 256 {
			if product(byte(a), byte(b)) == 1 {
				all[a] = byte(b)
			}
		}
	}
	return all
}

// timesOf: the product of two matrices, cell by cell in the chapter's words.
func timesOf(a, b grid) grid {
	m := blank(len(a), len(b[0]))
	for r := range m {
		for c := range m[r] {
			for i := range b {
				m[r][c] ^= products[a[r][i]][b[i][c]]
			}
		}
	}
	return m
}

// choices: the sum, over all ways to choose for each row from r on a column that is still free, of the product of the chosen cells.
func choices(a grid, r int, taken []bool) byte {
	if r == len(a) {
		return 1
	}
	sum := byte(0)
	for c, t := range taken {
		if !t {
			taken[c] = true
			sum ^= products[a[r][c]][choices(a, r+1, taken)]
			taken[c] = false
		}
	}
	return sum
}

func detOf(a grid) byte { return choices(a, 0, make([]bool, len(a))) }

// minorRank: the greatest number of rows and as many columns whose determinant isn't 0. For small matrices.
func minorRank(a grid) int {
	best := 0
	for rows := range 1 << len(a) {
		for cols := range 1 << len(a[0]) {
			if minor, ok := minorOf(a, rows, cols); ok && len(minor) > best && detOf(minor) != 0 {
				best = len(minor)
			}
		}
	}
	return best
}

// minorOf: the cells in the rows and columns whose bits are set; whether they are a square.
func minorOf(a grid, rows, cols int) (grid, bool) {
	var m grid
	for r, row := range a {
		if rows>>r&1 == 0 {
			continue
		}
		var list []byte
		for c, cell := range row {
			if cols>>c&1 == 1 {
				list = append(list, cell)
			}
		}
		m = append(m, list)
	}
	return m, len(m) > 0 && len(m[0]) == len(m)
}

// basis: of what rows span, by the column of the first cell that isn't 0, which is made 1. Rows go in one by one; nothing above is cleared.
type basis map[int][]byte

func basisOf(a grid) basis {
	b := basis{}
	for _, row := range a {
		if rest := b.rest(row); lead(rest) < len(rest) {
			factor := inverses[rest[lead(rest)]]
			for i := range rest {
				rest[i] = products[factor][rest[i]]
			}
			b[lead(rest)] = rest
		}
	}
	return b
}

// rest: what is left of a row when multiples of the basis are taken away; zeros alone where the basis spans it.
func (b basis) rest(row []byte) []byte {
	rest := bytes.Clone(row)
	for c := range rest {
		if own := b[c]; own != nil && rest[c] != 0 {
			factor := rest[c]
			for i := range rest {
				rest[i] ^= products[factor][own[i]]
			}
		}
	}
	return rest
}

// leads: the columns of the basis, which are the pivot columns of what it was made of.
func (b basis) leads() []int {
	var list []int
	for c := range b {
		list = append(list, c)
	}
	slices.Sort(list)
	return list
}

// lead: the column of the first cell that isn't 0; behind the row's end where there is none.
func lead(row []byte) int {
	for c, cell := range row {
		if cell != 0 {
			return c
		}
	}
	return len(row)
}

func blank(rows, cols int) grid {
	m := make(grid, rows)
	for r := range m {
		m[r] = make([]byte, cols)
	}
	return m
}

func one(n int) grid {
	m := blank(n, n)
	for i := range m {
		m[i][i] = 1
	}
	return m
}

// dice: numbers that look like no pattern.
type dice uint64

func (d *dice) next(n int) int {
	*d = *d*6364136223846793005 + 1442695040888963407
	return int(uint64(*d)>>33) % n
}

// unit: a byte that isn't 0.
func (d *dice) unit() byte { return byte(1 + d.next(255)) }

// mixed: a matrix of which about so many cells of ten are 0.
func (d *dice) mixed(rows, cols, noughts int) grid {
	m := blank(rows, cols)
	for _, row := range m {
		for c := range row {
			if d.next(10) >= noughts {
				row[c] = byte(d.next(256))
			}
		}
	}
	return m
}

// reduced: a reduced form with so many pivots, at columns that are chosen by chance; and these columns.
func (d *dice) reduced(rows, cols, rank int) (grid, []int) {
	pivots := d.some(cols, rank)
	m := blank(rows, cols)
	for r, p := range pivots {
		m[r][p] = 1
		for c := p + 1; c < cols; c++ {
			if !slices.Contains(pivots, c) && d.next(4) > 0 {
				m[r][c] = byte(d.next(256))
			}
		}
	}
	return m, pivots
}

// some: so many of the numbers below n, rising.
func (d *dice) some(n, count int) []int {
	var list []int
	for i := range n {
		if d.next(n-i) < count-len(list) {
			list = append(list, i)
		}
	}
	return list
}

// stirred: a matrix whose rows span the same as those of m: rows are added to others, scaled and changed for one another.
func (d *dice) stirred(m grid) grid {
	a := copies(m)
	for range 3 * len(a) {
		from, to, factor := d.next(len(a)), d.next(len(a)), d.unit()
		if from == to {
			for i, cell := range a[to] {
				a[to][i] = products[factor][cell]
			}
			continue
		}
		for i, cell := range a[from] {
			a[to][i] ^= products[factor][cell]
		}
		if d.next(3) == 0 {
			a[from], a[to] = a[to], a[from]
		}
	}
	return a
}

// ranked: a matrix of that rank.
func (d *dice) ranked(rows, cols, rank int) grid {
	m, _ := d.reduced(rows, cols, rank)
	return d.stirred(m)
}

// copies: a matrix in memory of its own.
func copies(a grid) grid {
	m := make(grid, len(a))
	for r, row := range a {
		m[r] = append([]byte{}, row...)
	}
	return m
}

func same(a, b grid) bool { return slices.EqualFunc(a, b, bytes.Equal) }

// short: a matrix as a message can tell it.
func short(a grid) any {
	if len(a) > 8 || len(a) > 0 && len(a[0]) > 8 {
		return [2]int{len(a), len(a[0])}
	}
	return a
}

// wants: the answer is the matrix that is wanted, and OK.
func wants(t *testing.T, what string, m grid, e api.Errno, want grid) {
	t.Helper()
	if e != api.OK || !same(m, want) {
		t.Errorf("%s = %x, %d, want %x", what, short(m), e, short(want))
	}
}

// refuses: the answer is that error, and nothing beside it.
func refuses(t *testing.T, what string, m grid, e, want api.Errno) {
	t.Helper()
	if e != want || len(m) != 0 {
		t.Errorf("%s = %x, %d, want the error %d alone", what, short(m), e, want)
	}
}

// ends: the ends of int, and numbers whose low bits look harmless.
func ends() []int {
	return []int{math.MinInt, math.MinInt + 1, math.MinInt + 2, math.MinInt32, -1 << 32, 1<<32 + 1, 1<<32 + 2, 1<<16 + 1, 1 << 62, math.MaxInt32, math.MaxInt - 256, math.MaxInt - 1, math.MaxInt}
}

// formless: matrices that have no form, each for another reason.
func formless() []grid {
	late := blank(256, 3)
	late[255] = make([]byte, 4)
	return []grid{
		nil, {}, {nil}, {{}}, {nil, nil}, {{}, nil}, {{}, {}, {}}, make(grid, 256), make(grid, 257), make(grid, 5000),
		{{1}, nil}, {nil, {1}}, {{1}, {}}, {{}, {1}}, {{1}, {1, 2}}, {{1, 2}, {1}}, {{1, 0}, {0, 1}, {1}}, {{1, 0}, {0, 1, 0}, {1, 1}}, {{1}, {0, 1}, {1, 1}},
		blank(257, 1), blank(257, 257), blank(257, 512), blank(1, 513), blank(256, 513), blank(2, 1000), blank(257, 513), blank(1000, 1), blank(1, 1<<16+1), late,
	}
}

// call: one of the calls over one matrix or two, as all of its answers together; the numbers that some take beside them are fixed.
type call struct {
	name string
	two  bool
	run  func(a, b grid) outcome
}

type outcome struct {
	m      grid
	pivots []int
	number int
	e      api.Errno
}

func (o outcome) equal(p outcome) bool {
	return same(o.m, p.m) && slices.Equal(o.pivots, p.pivots) && o.number == p.number && o.e == p.e
}

func (o outcome) copied() outcome {
	return outcome{copies(o.m), slices.Clone(o.pivots), o.number, o.e}
}

// empty: there is nothing but the error.
func (o outcome) empty() bool { return len(o.m) == 0 && len(o.pivots) == 0 && o.number == 0 }

func everyCall() []call {
	matrixOr := func(m grid, e api.Errno) outcome { return outcome{m: m, e: e} }
	picked := func(rows ...int) func(a, b grid) outcome {
		return func(a, b grid) outcome { return matrixOr(Pick(a, rows)) }
	}
	part := func(r0, r1, c0, c1 int) func(a, b grid) outcome {
		return func(a, b grid) outcome { return matrixOr(Sub(a, r0, r1, c0, c1)) }
	}
	return []call{
		{"Check", false, func(a, b grid) outcome { return outcome{e: Check(a)} }},
		{"Mul", true, func(a, b grid) outcome { return matrixOr(Mul(a, b)) }},
		{"Transpose", false, func(a, b grid) outcome { return matrixOr(Transpose(a)) }},
		{"Sub of the whole", false, func(a, b grid) outcome {
			if len(a) == 0 {
				return matrixOr(Sub(a, 0, 1, 0, 1))
			}
			return matrixOr(Sub(a, 0, len(a), 0, len(a[0])))
		}},
		{"Sub of one cell", false, part(0, 1, 0, 1)},
		{"Sub of nothing", false, part(0, 0, 0, 0)},
		{"Sub of wrong numbers", false, part(-1, 999, 5, 4)},
		{"Pick of one", false, picked(0)},
		{"Pick of one thrice", false, picked(0, 0, 0)},
		{"Pick of none", false, picked()},
		{"Pick of a wrong one", false, picked(0, -1)},
		{"Augment", true, func(a, b grid) outcome { return matrixOr(Augment(a, b)) }},
		{"Reduce", false, func(a, b grid) outcome {
			m, pivots, e := Reduce(a)
			return outcome{m: m, pivots: pivots, e: e}
		}},
		{"Rank", false, func(a, b grid) outcome {
			n, e := Rank(a)
			return outcome{number: n, e: e}
		}},
		{"Null", false, func(a, b grid) outcome { return matrixOr(Null(a)) }},
		{"Det", false, func(a, b grid) outcome {
			d, e := Det(a)
			return outcome{number: int(d), e: e}
		}},
		{"Invert", false, func(a, b grid) outcome { return matrixOr(Invert(a)) }},
		{"Solve", true, func(a, b grid) outcome { return matrixOr(Solve(a, b)) }},
	}
}
