package gener

import (
	"bytes"
	"fmt"
	"math"
	"slices"
	"testing"

	"cullet/api"
)

// What the tests hold the package against is worked out here by the chapter's words, without a call of the package or of the layers below: products bit by bit, codewords as values of polynomials and as sums of quotients, elements by roots that are looked for.

type grid = [][]byte

// products: at a, b the product of a and b in the field of 256. inverses: of every element but 0.
var (
	products = everyProduct()
	inverses = everyInverse()
)

func everyProduct() [256][256]byte {
	var all [256][256]byte
	for a := range all {
		for b := range all[a] {
			all[a][b] = byte(product(a, b, 8, 0x11D))
		}
	}
	return all
}

func everyInverse() [256]byte {
	var all [256]byte
	for a := range 256 {
		for b := range 256 {
			if products[a][b] == 1 {
				all[a] = byte(b)
			}
		}
	}
	return all
}

// product: the remainder of the product of two polynomials, the whole product first.
func product(a, b, degree, modulus int) int {
	whole := 0
	for i := range degree {
		if a>>i&1 == 1 {
			whole ^= b << i
		}
	}
	for i := 2*degree - 2; i >= degree; i-- {
		if whole>>i&1 == 1 {
			whole ^= modulus << (i - degree)
		}
	}
	return whole
}

func power(a byte, n int) byte {
	p := byte(1)
	for range n {
		p = products[p][a]
	}
	return p
}

// weight: Lagrange's product: the value at x of the polynomial that is 1 at points[i] and 0 at the other points.
func weight(points []int, i, x int) byte {
	above, below := byte(1), byte(1)
	for t, p := range points {
		if t != i {
			above = products[above][byte(x^p)]
			below = products[below][byte(points[i]^p)]
		}
	}
	return products[above][inverses[below]]
}

// firstOf: the numbers 0 to n - 1.
func firstOf(n int) []int {
	list := make([]int, n)
	for i := range list {
		list[i] = i
	}
	return list
}

// parityOf: the parity's factors by the chapter's section 'The codes'.
func parityOf(f api.Family, k, m int) grid {
	rows, points := blank(m, k), firstOf(k)
	for j := range rows {
		for i := range k {
			if f == api.Cauchy {
				rows[j][i] = inverses[(k+j)^i]
			} else {
				rows[j][i] = weight(points, i, k+j)
			}
		}
	}
	return rows
}

// codeword: one place of all shards. Vander: the values of a polynomial, whose coefficients are the dice's. Cauchy: data of the dice, and the sums of quotients.
func (d *dice) codeword(f api.Family, k, m int) []byte {
	column := make([]byte, k+m)
	seeds := make([]byte, k)
	for i := range seeds {
		seeds[i] = byte(d.next(256))
	}
	if f == api.Cauchy {
		copy(column, seeds)
		for x := k; x < k+m; x++ {
			for i, c := range seeds {
				column[x] ^= products[c][inverses[x^i]]
			}
		}
		return column
	}
	for x := range column {
		for i := k - 1; i >= 0; i-- {
			column[x] = products[column[x]][byte(x)] ^ seeds[i]
		}
	}
	return column
}

// sumOf: the sum of the factors times the shards of these numbers.
func sumOf(row []byte, column []byte, from []int) byte {
	sum := byte(0)
	for i, factor := range row {
		sum ^= products[factor][column[from[i]]]
	}
	return sum
}

// timesOf: the product of two matrices.
func timesOf(a, b grid) grid {
	m := blank(len(a), len(b[0]))
	for r := range m {
		for i, factor := range a[r] {
			for c := range b[i] {
				m[r][c] ^= products[factor][b[i][c]]
			}
		}
	}
	return m
}

func blank(rows, cols int) grid {
	m := make(grid, rows)
	for r := range m {
		m[r] = make([]byte, cols)
	}
	return m
}

func one(n int) grid {
	m := blank(n, n)
	for i := range m {
		m[i][i] = 1
	}
	return m
}

func vandermonde(rows, cols int) grid {
	m := blank(rows, cols)
	for r := range m {
		for c := range m[r] {
			m[r][c] = power(byte(r), c)
		}
	}
	return m
}

// field16: the field of 65536: powers of 2 and logarithms, by shifts; and the element of each index.
type field16 struct {
	powers [65535]uint16
	logs   [65536]int
	w      [65536]uint16
}

// long: the field of 65536 as the tests have it.
var long = makeField16()

func makeField16() *field16 {
	f := &field16{}
	p := 1
	for n := range f.powers {
		f.powers[n], f.logs[p] = uint16(p), n
		p = product(p, 2, 16, 0x1002D)
	}
	basis := f.cantor()
	for i := range f.w {
		for t, b := range basis {
			if i>>t&1 == 1 {
				f.w[i] ^= b
			}
		}
	}
	return f
}

// cantor: 1, and behind each element the even one whose square and itself have it as their sum.
func (f *field16) cantor() []uint16 {
	even := make([]uint16, 65536)
	for y := 0; y < 65536; y += 2 {
		even[product(y, y, 16, 0x1002D)^y] = uint16(y)
	}
	basis := []uint16{1}
	for len(basis) < 16 {
		basis = append(basis, even[basis[len(basis)-1]])
	}
	return basis
}

func (f *field16) mul(a, b uint16) uint16 {
	if a == 0 || b == 0 {
		return 0
	}
	return f.powers[(f.logs[a]+f.logs[b])%65535]
}

// div: b isn't 0.
func (f *field16) div(a, b uint16) uint16 {
	return f.mul(a, f.powers[(65535-f.logs[b])%65535])
}

// formula: the factor of data i in parity j, with M = 2^u found by doubling.
func (f *field16) formula(m, i, j int) uint16 {
	u, size := 0, 1
	for size < m {
		u, size = u+1, 2*size
	}
	return f.div(f.w[(size+i)>>u], f.w[j]^f.w[size+i])
}

// interpolated: the value at w(j) of the polynomial that is 1 at w(size + i) and 0 at the other w(size) to w(end - 1).
func (f *field16) interpolated(size, end, i, j int) uint16 {
	above, below := uint16(1), uint16(1)
	for t := size; t < end; t++ {
		if t != size+i {
			above = f.mul(above, f.w[j]^f.w[t])
			below = f.mul(below, f.w[size+i]^f.w[t])
		}
	}
	return f.div(above, below)
}

// dice: numbers that look like no pattern.
type dice uint64

func (d *dice) next(n int) int {
	*d = *d*6364136223846793005 + 1442695040888963407
	return int(uint64(*d)>>33) % n
}

func (d *dice) mixed(rows, cols int) grid {
	m := blank(rows, cols)
	for _, row := range m {
		for c := range row {
			row[c] = byte(d.next(256))
		}
	}
	return m
}

// regular: a square that has an inverse: the identity, to whose rows multiples of others are added.
func (d *dice) regular(n int) grid {
	m := one(n)
	for range 4 * n {
		from, to, factor := d.next(n), d.next(n), 1+d.next(255)
		if from == to {
			continue
		}
		for i, cell := range m[from] {
			m[to][i] ^= products[factor][cell]
		}
		if d.next(3) == 0 {
			m[from], m[to] = m[to], m[from]
		}
	}
	return m
}

// some: so many of the numbers below n, rising.
func (d *dice) some(n, count int) []int {
	var list []int
	for i := range n {
		if d.next(n-i) < count-len(list) {
			list = append(list, i)
		}
	}
	return list
}

// chosen: the places of the bits that are set.
func chosen(set int) []int {
	var list []int
	for i := 0; set>>i > 0; i++ {
		if set>>i&1 == 1 {
			list = append(list, i)
		}
	}
	return list
}

// copies: a matrix in memory of its own.
func copies(a grid) grid {
	m := make(grid, len(a))
	for r, row := range a {
		m[r] = append([]byte{}, row...)
	}
	return m
}

func same(a, b grid) bool { return slices.EqualFunc(a, b, bytes.Equal) }

// short: a matrix as a message can tell it.
func short(a grid) any {
	if len(a) > 8 || len(a) > 0 && len(a[0]) > 8 {
		return [2]int{len(a), len(a[0])}
	}
	return a
}

// few: a list as a message can tell it.
func few[E any](list []E) string {
	if len(list) > 12 {
		return fmt.Sprint(len(list), " of them: ", list[:12])
	}
	return fmt.Sprint(list)
}

// wants: the answer is the matrix that is wanted, and OK.
func wants(t *testing.T, what string, m grid, e api.Errno, want grid) {
	t.Helper()
	if e != api.OK || !same(m, want) {
		t.Errorf("%s = %v, %d, want %v", what, short(m), e, short(want))
	}
}

// wantsList: the answer is the list that is wanted, and OK.
func wantsList[E comparable](t *testing.T, what string, list []E, e api.Errno, want []E) {
	t.Helper()
	if e != api.OK || !slices.Equal(list, want) {
		t.Errorf("%s = %s, %d, want %s", what, few(list), e, few(want))
	}
}

// refuses: the answer is that error, and nothing beside it.
func refuses[E any](t *testing.T, what string, list []E, e, want api.Errno) {
	t.Helper()
	if e != want || len(list) != 0 {
		t.Errorf("%s = %d items, %d, want the error %d alone", what, len(list), e, want)
	}
}

func families() []api.Family { return []api.Family{api.Vander, api.Cauchy} }

// strangers: numbers that are no family of this layer's bytes.
func strangers() []api.Family {
	return []api.Family{api.Long, -1, 3, 4, 9, 255, 256, 257, 1 << 8, 1 << 32, 1<<32 + 1, math.MinInt, math.MaxInt}
}

// ends: the ends of int, and numbers whose low bits look harmless.
func ends() []int {
	return []int{math.MinInt, math.MinInt + 1, math.MinInt + 2, math.MinInt32, -1 << 32, 1<<16 + 1, 1<<32 + 1, 1<<32 + 2, 1 << 62, math.MaxInt32, math.MaxInt - 256, math.MaxInt - 1, math.MaxInt}
}

// wrongParams: pairs that are no k and m of Vander and Cauchy.
func wrongParams() [][2]int {
	list := [][2]int{{0, 0}, {0, 1}, {1, 0}, {-1, 1}, {1, -1}, {-1, -1}, {0, 256}, {256, 0}, {256, 1}, {1, 256}, {257, -1}, {-1, 257}, {300, -44}, {-44, 300}, {200, 57}, {57, 200}, {128, 129}, {129, 128}, {255, 2}, {2, 255}, {255, 255}, {256, 256}, {1 << 62, 1 << 62}, {math.MaxInt, math.MaxInt}, {math.MaxInt, math.MinInt}, {math.MinInt, math.MaxInt}, {math.MinInt, math.MinInt}, {math.MaxInt, math.MinInt + 20}}
	for _, n := range ends() {
		for _, other := range []int{-1, 0, 1, 2, 128, 255} {
			list = append(list, [2]int{n, other}, [2]int{other, n})
		}
	}
	return list
}

// params: pairs that are k and m: all whose sum is at most 12, and great ones.
func params() [][2]int {
	list := [][2]int{{1, 254}, {1, 255}, {254, 1}, {255, 1}, {2, 254}, {254, 2}, {127, 128}, {128, 127}, {128, 128}, {200, 55}, {200, 56}, {16, 240}, {31, 17}, {17, 31}, {64, 64}}
	for sum := 2; sum <= 12; sum++ {
		for k := 1; k < sum; k++ {
			list = append(list, [2]int{k, sum - k})
		}
	}
	return list
}

// formless: matrices that have no form, each for another reason.
func formless() []grid {
	late := blank(256, 3)
	late[255] = make([]byte, 4)
	return []grid{
		nil, {}, {nil}, {{}}, {nil, nil}, {{}, nil}, {{}, {}, {}}, make(grid, 256), make(grid, 257),
		{{1}, nil}, {nil, {1}}, {{1}, {}}, {{}, {1}}, {{1}, {1, 2}}, {{1, 2}, {1}}, {{1, 0}, {0, 1}, {1}}, {{1, 0}, {0, 1, 0}, {1, 1}}, {{0}, {0, 1}, {1, 1}}, {{1, 2, 3}, {1, 2}},
		blank(257, 1), blank(257, 257), blank(257, 512), blank(1, 513), blank(256, 513), blank(600, 513), late,
	}
}
