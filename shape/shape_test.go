package shape

import (
	"fmt"
	"testing"

	"cullet/api"
)

// P16.1

func TestPow2(t *testing.T) {
	for n := 1; n <= 65536; n++ {
		power, e := Pow2(n)
		wants(t, fmt.Sprintf("Pow2(%d)", n), power, e, powerFor(n), api.OK)
	}
}

func TestPow2OutOfRange(t *testing.T) {
	for _, n := range append(extremes(), -3, 65538, 100000) {
		if n >= 1 && n <= 65536 {
			continue
		}
		power, e := Pow2(n)
		wants(t, fmt.Sprintf("Pow2(%d)", n), power, e, 0, api.ErrRange)
	}
}

// P16.2

// paramsAgree: Params answers what the document's words give.
func paramsAgree(t *testing.T, s setting) {
	t.Helper()
	if e, want := Params(s.f, s.k, s.m), firstOf(s.begin()); e != want {
		t.Errorf("Params(%v) = %d, want %d", s, e, want)
	}
}

func TestParamsExamples(t *testing.T) {
	for _, c := range []struct {
		s    setting
		want api.Errno
	}{
		{setting{api.Vander, 200, 56}, api.OK},
		{setting{api.Vander, 200, 57}, api.ErrParams},
		{setting{3, 0, 0}, api.ErrFamily},
		{setting{api.Long, 65535, 1}, api.OK},
		{setting{api.Long, 32768, 32768}, api.OK},
		{setting{api.Long, 40000, 20000}, api.ErrParams},
		{setting{api.Long, 32769, 32767}, api.ErrParams},
		{setting{api.Cauchy, 1, 1}, api.OK},
		{setting{api.Cauchy, 255, 1}, api.OK},
		{setting{api.Vander, 1, 255}, api.OK},
		{setting{api.Vander, 256, 1}, api.ErrParams},
		{setting{api.Long, 1, 32768}, api.OK},
		{setting{api.Long, 1, 32769}, api.ErrParams},
		{setting{api.Long, 255, 256}, api.OK},
	} {
		if e := Params(c.s.f, c.s.k, c.s.m); e != c.want {
			t.Errorf("Params(%v) = %d, want %d", c.s, e, c.want)
		}
	}
}

// Every k and m about the small families' ranges, of all families.
func TestParamsOfSmallNumbers(t *testing.T) {
	for _, f := range append(families(), wrongFamilies()...) {
		for k := -2; k <= 259; k++ {
			for m := -2; m <= 259; m++ {
				paramsAgree(t, setting{f, k, m})
			}
		}
	}
}

// Every number of parity shards of Long, with about the most data shards that it leaves room for.
func TestParamsOfLong(t *testing.T) {
	for m := -1; m <= 65538; m++ {
		most := 65536 - powerFor(m)
		for _, k := range []int{-1, 0, 1, 2, most - 1, most, most + 1, 65536 - m, 65537 - m, 65535, 65536} {
			paramsAgree(t, setting{api.Long, k, m})
		}
	}
}

// Sums that would leave an int.
func TestParamsOfExtremes(t *testing.T) {
	for _, f := range append(families(), wrongFamilies()...) {
		for _, k := range extremes() {
			for _, m := range extremes() {
				paramsAgree(t, setting{f, k, m})
			}
		}
	}
}

// P16.3

func TestUses(t *testing.T) {
	small := []api.Backend{api.Table, api.Nibble, api.Sliced}
	long := []api.Backend{api.Direct, api.Fast}
	good := map[api.Family][]api.Backend{api.Vander: small, api.Cauchy: small, api.Long: long}
	others := map[api.Family][]api.Backend{api.Vander: long, api.Cauchy: long, api.Long: small}
	for _, f := range families() {
		for _, b := range good[f] {
			if e := Uses(f, b); e != api.OK {
				t.Errorf("Uses(%d, %d) = %d", f, b, e)
			}
		}
		for _, b := range others[f] {
			if e := Uses(f, b); e != api.ErrBackend {
				t.Errorf("Uses(%d, %d) = %d, want ErrBackend", f, b, e)
			}
		}
		for _, n := range append(extremes(), -3, 5, 6, 7, 8) {
			if e := Uses(f, api.Backend(n)); (n < 0 || n > 4) && e != api.ErrBackend {
				t.Errorf("Uses(%d, %d) = %d, want ErrBackend", f, n, e)
			}
		}
	}
}

// A wrong family is told ahead of the backend, whatever that is.
func TestUsesOfWrongFamilies(t *testing.T) {
	for _, f := range wrongFamilies() {
		for _, n := range append(extremes(), 3, 4, 5, 9) {
			if e := Uses(f, api.Backend(n)); e != api.ErrFamily {
				t.Errorf("Uses(%d, %d) = %d, want ErrFamily", f, n, e)
			}
		}
	}
}
