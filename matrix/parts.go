package matrix

import (
	"cullet/api"
	"cullet/gf8"
)

// Mul: the product. ErrShape, ErrDims.
func Mul(a, b [][]byte) ([][]byte, api.Errno) {
	if e := checkBoth(a, b); e != api.OK {
		return nil, e
	}
	if len(a[0]) != len(b) {
		return nil, api.ErrDims
	}
	field := gf8.New()
	m := zeros(len(a), len(b[0]))
	for r, row := range a {
		for i, factor := range row {
			addMultiple(field, factor, m[r], b[i])
		}
	}
	return m, api.OK
}

// Transpose. ErrShape (of the answer too).
func Transpose(a [][]byte) ([][]byte, api.Errno) {
	if e := Check(a); e != api.OK {
		return nil, e
	}
	if len(a[0]) > api.MaxRows {
		return nil, api.ErrShape
	}
	m := zeros(len(a[0]), len(a))
	for r, row := range a {
		for c, cell := range row {
			m[c][r] = cell
		}
	}
	return m, api.OK
}

// Sub: rows r0 to r1 - 1, columns c0 to c1 - 1. ErrShape, ErrRange.
func Sub(a [][]byte, r0, r1, c0, c1 int) ([][]byte, api.Errno) {
	if e := Check(a); e != api.OK {
		return nil, e
	}
	if r0 < 0 || r0 >= r1 || r1 > len(a) || c0 < 0 || c0 >= c1 || c1 > len(a[0]) {
		return nil, api.ErrRange
	}
	return strip(a[r0:r1], c0, c1), api.OK
}

// Pick: the rows of these numbers, in this order. ErrShape, ErrRange (none, more than MaxRows, no such row).
func Pick(a [][]byte, rows []int) ([][]byte, api.Errno) {
	if e := Check(a); e != api.OK {
		return nil, e
	}
	if !within(len(rows), api.MaxRows) {
		return nil, api.ErrRange
	}
	m := zeros(len(rows), len(a[0]))
	for i, r := range rows {
		if r < 0 || r >= len(a) {
			return nil, api.ErrRange
		}
		copy(m[i], a[r])
	}
	return m, api.OK
}

// Augment: a and b side by side. ErrShape, ErrDims (rows differ, more than MaxCols columns).
func Augment(a, b [][]byte) ([][]byte, api.Errno) {
	if e := checkBoth(a, b); e != api.OK {
		return nil, e
	}
	if len(a) != len(b) || len(a[0])+len(b[0]) > api.MaxCols {
		return nil, api.ErrDims
	}
	return beside(a, b), api.OK
}

// checkBoth: ErrShape, where either one has no form.
func checkBoth(a, b [][]byte) api.Errno {
	if e := Check(a); e != api.OK {
		return e
	}
	return Check(b)
}

// strip: the cells of all rows in the columns from to to - 1, in new memory.
func strip(a [][]byte, from, to int) [][]byte {
	m := zeros(len(a), to-from)
	for r, row := range a {
		copy(m[r], row[from:to])
	}
	return m
}

// beside: a and b side by side in new memory, however wide.
func beside(a, b [][]byte) [][]byte {
	left, right := len(a[0]), len(b[0])
	m := zeros(len(a), left+right)
	for r, row := range m {
		copy(row, a[r])
		copy(row[left:], b[r])
	}
	return m
}

// addMultiple: factor times src is added to dst, cell by cell.
func addMultiple(field *gf8.Tables, factor byte, dst, src []byte) {
	if factor == 0 {
		return
	}
	for i, cell := range src {
		dst[i] ^= field.Mul(factor, cell)
	}
}
