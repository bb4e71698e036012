package walsh

import (
	"fmt"
	"math"
	"slices"
	"testing"

	"cullet/api"
)

// P15.4

func TestLogsExamples(t *testing.T) {
	list, e := Logs(2)
	wants(t, "Logs(2)", list, e, []uint16{0, 0, 21845, 43690})
	list, e = Logs(0)
	wants(t, "Logs(0)", list, e, []uint16{0})
}

func TestLogsOfEveryRange(t *testing.T) {
	for r := range 17 {
		want := []uint16{0}
		for i := 1; i < 1<<r; i++ {
			want = append(want, uint16(long.logs[long.w[i]]))
		}
		list, e := Logs(r)
		wants(t, fmt.Sprintf("Logs(%d)", r), list, e, want)
	}
}

func TestLogsRefuses(t *testing.T) {
	for _, r := range wrongRanges() {
		list, e := Logs(r)
		refuses(t, fmt.Sprintf("Logs(%d)", r), list, e, api.ErrRange)
	}
}

// P15.5

// locates: both calls answer these products and their logarithms.
func locates(t *testing.T, lost []int, r int, products []uint16) {
	t.Helper()
	var logs []uint16
	for _, p := range products {
		logs = append(logs, uint16(long.logs[p]))
	}
	list, e := Locator(lost, r)
	wants(t, fmt.Sprintf("Locator(%s, %d)", brief(lost), r), list, e, logs)
	list, e = Products(lost, r)
	wants(t, fmt.Sprintf("Products(%s, %d)", brief(lost), r), list, e, products)
}

// locatesByDefinition: at all places.
func locatesByDefinition(t *testing.T, lost []int, r int) {
	t.Helper()
	products := make([]uint16, 1<<r)
	for i := range products {
		products[i] = long.locatorAt(lost, i)
	}
	locates(t, lost, r, products)
}

func TestLocatorExamples(t *testing.T) {
	locates(t, []int{1}, 2, []uint16{1, 1, 0xACCB, 0xACCA})
	locates(t, []int{0, 1, 2, 3}, 2, []uint16{1, 1, 1, 1})
	locates(t, nil, 2, []uint16{1, 1, 1, 1})
	locates(t, nil, 0, []uint16{1})
	locates(t, []int{0}, 0, []uint16{1})
	locates(t, []int{0}, 1, []uint16{1, 1})
	list, e := Locator([]int{1}, 2)
	wants(t, "Locator([1], 2)", list, e, []uint16{0, 0, 43690, 21845})
}

// Every set of lost places, where there are few places.
func TestEverySetOfLostPlaces(t *testing.T) {
	for r := range 4 {
		for set := range 1 << (1 << r) {
			var lost []int
			for i := range 1 << r {
				if set>>i&1 == 1 {
					lost = append(lost, i)
				}
			}
			locatesByDefinition(t, lost, r)
		}
	}
}

// Every range: few, half and nearly all of the places lost, none and all.
func TestLocatorOfEveryRange(t *testing.T) {
	d := dice(20)
	for r := range 12 {
		n := 1 << r
		for _, lost := range [][]int{nil, {0}, {n - 1}, d.indices(n, 10), d.indices(n, 2), upTo(n), upTo(n)[n/2:], upTo(n)[:n-1], upTo(n)[1:]} {
			locatesByDefinition(t, lost, r)
		}
	}
}

// The great ranges: few lost places everywhere, many lost places at some.
func TestLocatorOfGreatRanges(t *testing.T) {
	d := dice(21)
	for r := 12; r <= 16; r++ {
		n := 1 << r
		locatesByDefinition(t, nil, r)
		locatesByDefinition(t, []int{n - 1}, r)
		locatesByDefinition(t, []int{0, 1, n / 2, n - 2}, r)
		locatesByDefinition(t, d.indices(n, n/30), r)
		for _, lost := range [][]int{d.indices(n, 2), upTo(n)[n/2:], upTo(n)[:n-1], upTo(n)} {
			logs, e := Locator(lost, r)
			products, f := Products(lost, r)
			if e != api.OK || f != api.OK || len(logs) != n || len(products) != n {
				t.Fatalf("%d lost places of %d: %d, %d", len(lost), n, e, f)
			}
			for i, p := range products {
				if p == 0 || int(logs[i]) != long.logs[p] {
					t.Fatalf("%d lost places of %d: the product %d at %d, its logarithm %d", len(lost), n, p, i, logs[i])
				}
			}
			for _, i := range append(d.somePlaces(n), lost[0], lost[len(lost)-1]) {
				if want := long.locatorAt(lost, i); products[i] != want {
					t.Errorf("%d lost places of %d: the product %d at %d, want %d", len(lost), n, products[i], i, want)
				}
			}
		}
	}
}

// All of a subspace lost: at each lost place the product of the others' differences is that of all elements but 0; in a field it is 1.
func TestAllOfAFieldLost(t *testing.T) {
	for _, r := range []int{0, 1, 2, 4, 8, 16} {
		locates(t, upTo(1<<r), r, slices.Repeat([]uint16{1}, 1<<r))
	}
}

func TestLocatorOutOfRange(t *testing.T) {
	for _, r := range wrongRanges() {
		for _, lost := range [][]int{nil, {0}, {4}, {-1}, {2, 1}, {1, 1}, {math.MinInt}, {math.MaxInt}} {
			list, e := Locator(lost, r)
			refuses(t, fmt.Sprintf("Locator(%d, %d)", lost, r), list, e, api.ErrRange)
			list, e = Products(lost, r)
			refuses(t, fmt.Sprintf("Products(%d, %d)", lost, r), list, e, api.ErrRange)
		}
	}
}

// wrongLost: lists that are not rising, or not of places below n.
func wrongLost(n int) [][]int {
	list := [][]int{
		{-1}, {n}, {n + 1}, {2 * n}, {-n}, {65536}, {math.MinInt}, {math.MaxInt}, {1 << 32}, {-1 << 32}, {1 << 62},
		{-1, 0}, {0, n}, {0, 0}, {n - 1, n - 1}, {n - 1, n}, {n - 1, math.MinInt}, {math.MaxInt, math.MinInt},
		append(upTo(n), n), append(upTo(n), n-1), append(upTo(n), 0), append(upTo(n), -1),
	}
	if n > 1 {
		list = append(list, []int{1, 0}, []int{n - 1, 0}, []int{0, 1, 0}, []int{0, 1, 1})
		back := upTo(n)
		back[n-1], back[n-2] = back[n-2], back[n-1]
		list = append(list, back)
	}
	return list
}

func TestWrongLostPlaces(t *testing.T) {
	for r := range 17 {
		for _, lost := range wrongLost(1 << r) {
			list, e := Locator(lost, r)
			refuses(t, fmt.Sprintf("Locator(%s, %d)", brief(lost), r), list, e, api.ErrIndex)
			list, e = Products(lost, r)
			refuses(t, fmt.Sprintf("Products(%s, %d)", brief(lost), r), list, e, api.ErrIndex)
		}
	}
}

// A list longer than there are places is refused too, and soon.
func TestFarTooManyLostPlaces(t *testing.T) {
	for _, lost := range [][]int{make([]int, 1<<20), upTo(1 << 20)} {
		list, e := Locator(lost, 16)
		refuses(t, "Locator of a long list", list, e, api.ErrIndex)
		list, e = Products(lost, 16)
		refuses(t, "Products of a long list", list, e, api.ErrIndex)
	}
}
