package walsh

import (
	"cullet/api"
	"cullet/gf16"
)

const degree = 16 // the Cantor basis has as many elements

// Logs: the logarithms of w(0) to w(2^r - 1), with 0 at w(0). ErrRange (r outside 0 to 16).
func Logs(r int) ([]uint16, api.Errno) {
	if r < 0 || r > degree {
		return nil, api.ErrRange
	}
	return logs(gf16.New(), r), api.OK
}

// Locator: for each i below 2^r the logarithm, modulo 65535, of the product of w(i) + w(e) over all e of lost but i. ErrRange, ErrIndex (lost not rising, or not below 2^r).
func Locator(lost []int, r int) ([]uint16, api.Errno) {
	if e := checkLost(lost, r); e != api.OK {
		return nil, e
	}
	return locator(gf16.New(), lost, r), api.OK
}

// Products: the products themselves. ErrRange, ErrIndex.
func Products(lost []int, r int) ([]uint16, api.Errno) {
	if e := checkLost(lost, r); e != api.OK {
		return nil, e
	}
	field := gf16.New()
	list := locator(field, lost, r)
	for i, n := range list {
		list[i] = field.Exp(int(n))
	}
	return list, api.OK
}

// checkLost: are these rising indices below 2^r? ErrRange, ErrIndex.
func checkLost(lost []int, r int) api.Errno {
	if r < 0 || r > degree {
		return api.ErrRange
	}
	least := 0
	for _, e := range lost {
		if e < least || e >= 1<<r {
			return api.ErrIndex
		}
		least = e + 1
	}
	return api.OK
}

// logs: of w(0) to w(2^r - 1). That of w(0) = 0, which has none, is 0.
func logs(field *gf16.Tables, r int) []uint16 {
	list := firstElements(r)
	for i, w := range list {
		n, _ := field.Log(w)
		list[i] = uint16(n)
	}
	return list
}

// firstElements: w(0) to w(2^r - 1). With each of the basis the list doubles, since w of an index is a sum over its bits.
func firstElements(r int) []uint16 {
	list := make([]uint16, 1<<r)
	for t, b := range gf16.Basis()[:r] {
		for i := range 1 << t {
			list[1<<t+i] = list[i] ^ b
		}
	}
	return list
}

// locator: a product's logarithm is the sum of those of w(i) + w(e) = w(i xor e). At e = i that is the log list's first number, whose 0 leaves i itself out.
func locator(field *gf16.Tables, lost []int, r int) []uint16 {
	marks := make([]uint16, 1<<r)
	for _, e := range lost {
		marks[e] = 1
	}
	return convolved(marks, logs(field, r))
}
