package matrix

import (
	"cullet/api"
	"cullet/gf8"
)

// Reduce: the reduced row echelon form, and its pivots' columns, rising. ErrShape.
func Reduce(a [][]byte) ([][]byte, []int, api.Errno) {
	if e := Check(a); e != api.OK {
		return nil, nil, e
	}
	m := strip(a, 0, len(a[0]))
	pivots, _ := eliminate(m, len(m[0]))
	return m, pivots, api.OK
}

// Rank. ErrShape.
func Rank(a [][]byte) (int, api.Errno) {
	_, pivots, e := Reduce(a)
	return len(pivots), e
}

// Null: a vector for each column without a pivot, in order: 1 there, 0 in the other such columns, and a times it is 0. ErrShape.
func Null(a [][]byte) ([][]byte, api.Errno) {
	m, pivots, e := Reduce(a)
	if e != api.OK {
		return nil, e
	}
	var vectors [][]byte
	passed := 0
	for c := range m[0] {
		if passed < len(pivots) && pivots[passed] == c {
			passed++
			continue
		}
		vectors = append(vectors, nullVector(m, pivots, c))
	}
	return vectors, api.OK
}

// nullVector: of a reduced form, the vector that is 1 at the column free, which has no pivot.
func nullVector(m [][]byte, pivots []int, free int) []byte {
	vector := make([]byte, len(m[0]))
	vector[free] = 1
	for r, c := range pivots {
		vector[c] = m[r][free]
	}
	return vector
}

// Det: the determinant. ErrShape, ErrDims (not square).
func Det(a [][]byte) (byte, api.Errno) {
	if e := checkSquare(a); e != api.OK {
		return 0, e
	}
	pivots, product := eliminate(strip(a, 0, len(a)), len(a))
	if len(pivots) < len(a) {
		return 0, api.OK
	}
	return product, api.OK
}

// Invert: the inverse. ErrShape, ErrDims (not square), ErrSingular.
func Invert(a [][]byte) ([][]byte, api.Errno) {
	if e := checkSquare(a); e != api.OK {
		return nil, e
	}
	one, _ := Identity(len(a))
	return solution(a, one)
}

// Solve: the x with a*x = b. ErrShape, ErrDims (a not square, rows differ), ErrSingular.
func Solve(a, b [][]byte) ([][]byte, api.Errno) {
	if e := checkBoth(a, b); e != api.OK {
		return nil, e
	}
	if len(a) != len(a[0]) || len(b) != len(a) {
		return nil, api.ErrDims
	}
	return solution(a, b)
}

// checkSquare: ErrShape, ErrDims.
func checkSquare(a [][]byte) api.Errno {
	if e := Check(a); e != api.OK {
		return e
	}
	if len(a) != len(a[0]) {
		return api.ErrDims
	}
	return api.OK
}

// solution: the x with a*x = b, of a square a and a b of as many rows: what turns a into the identity turns b into x. ErrSingular.
func solution(a, b [][]byte) ([][]byte, api.Errno) {
	both := beside(a, b)
	pivots, _ := eliminate(both, len(a))
	if len(pivots) < len(a) {
		return nil, api.ErrSingular
	}
	return strip(both, len(a), len(both[0])), api.OK
}

// eliminate brings the first cols columns of m into reduced form, in place; the columns behind them go along. It answers the pivots' columns, and the product of the cells that the pivots were: where a square has a pivot in each column, that is its determinant.
func eliminate(m [][]byte, cols int) ([]int, byte) {
	field := gf8.New()
	var pivots []int
	product := byte(1)
columns:
	for c := range cols {
		top := len(pivots)
		if top == len(m) {
			break columns
		}
	rows:
		for r := top; r < len(m); r++ {
			cell := m[r][c]
			if cell == 0 {
				continue rows
			}
			m[top], m[r] = m[r], m[top]
			clearColumn(field, m, top, c)
			pivots = append(pivots, c)
			product = field.Mul(product, cell)
			continue columns
		}
	}
	return pivots, product
}

// clearColumn makes the pivot, which isn't 0, 1, and every other cell of its column 0. Ahead of the pivot its row has zeros alone.
func clearColumn(field *gf8.Tables, m [][]byte, pivot, c int) {
	source := m[pivot][c:]
	inverse, _ := field.Inv(source[0])
	for i, cell := range source {
		source[i] = field.Mul(inverse, cell)
	}
	for r, row := range m {
		if r != pivot {
			addMultiple(field, row[c], row[c:], source)
		}
	}
}
