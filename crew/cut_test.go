package crew

import (
	"math"
	"slices"
	"testing"

	"cullet/api"
)

// P21.1.

func cuts(t *testing.T, length, stripe, align int) {
	t.Helper()
	want := spansBy(length, stepBy(length, stripe, align))
	got, e := Cut(length, stripe, align)
	if e != api.OK || !slices.Equal(got, want) {
		at := 0
		for at < min(len(got), len(want)) && got[at] == want[at] {
			at++
		}
		t.Fatalf("Cut(%d, %d, %d): %v, %d spans; it is to be %d; they part at %d: %v, %v", length, stripe, align, e, len(got), len(want), at, got[at:min(at+2, len(got))], want[at:min(at+2, len(want))])
	}
	covers(t, got, length, align)
}

// covers: in order the spans hold each place once, each begins at a multiple of align, none is empty, and they are not too many.
func covers(t *testing.T, spans []api.Span, length, align int) {
	t.Helper()
	at := 0
	for _, s := range spans {
		if s.From != at || s.To <= s.From || s.From%align != 0 {
			t.Fatalf("the span %v of %d at %d, align %d", s, length, at, align)
		}
		at = s.To
	}
	if at != length || len(spans) > 65536 {
		t.Fatalf("%d spans up to %d, of %d", len(spans), at, length)
	}
}

func TestCutExamples(t *testing.T) {
	for _, c := range []struct {
		length, stripe, align int
		want                  []api.Span
	}{
		{10, 4, 1, []api.Span{{From: 0, To: 4}, {From: 4, To: 8}, {From: 8, To: 10}}},
		{10, 5, 2, []api.Span{{From: 0, To: 4}, {From: 4, To: 8}, {From: 8, To: 10}}},
		{10, 1, 4, []api.Span{{From: 0, To: 4}, {From: 4, To: 8}, {From: 8, To: 10}}},
		{3, 100, 8, []api.Span{{From: 0, To: 3}}},
		{0, 4, 1, nil},
	} {
		if got, e := Cut(c.length, c.stripe, c.align); e != api.OK || !slices.Equal(got, c.want) {
			t.Error(c, got, e)
		}
	}
	spans, e := Cut(131073, 1, 2)
	if e != api.OK || len(spans) != 32769 || spans[0] != (api.Span{From: 0, To: 4}) || spans[32768] != (api.Span{From: 131072, To: 131073}) {
		t.Error(len(spans), e)
	}
}

// All short lengths, stripes and aligns; the step is looked for among all numbers.
func TestCutShortLengths(t *testing.T) {
	for length := 0; length <= 40; length++ {
		for stripe := 1; stripe <= 45; stripe++ {
			for align := 1; align <= 45; align++ {
				step := align
				for x := 1; x <= stripe; x++ {
					if x%align == 0 {
						step = x
					}
				}
				var want []api.Span
				for at := range length {
					if at%step == 0 {
						want = append(want, api.Span{From: at})
					}
					want[len(want)-1].To = at + 1
				}
				if got, e := Cut(length, stripe, align); e != api.OK || !slices.Equal(got, want) {
					t.Fatal(length, stripe, align, got, e)
				}
			}
		}
	}
}

// About the lengths at which the spans become too many: the step is then looked for among the multiples, one by one.
func TestCutTooManySpans(t *testing.T) {
	for _, align := range []int{1, 2, 3, 7, 8, 1000} {
		for _, stripe := range []int{1, align, align + 1, 2*align - 1, 2 * align, 7*align + align/2} {
			step := align
			for step+align <= stripe {
				step += align
			}
			for _, more := range []int{-align - 1, -align, -2, -1, 0, 1, 2, align - 1, align, align + 1, step, 65536 * align, 65536*align + 1, 65536*step*2 + 1} {
				length := 65536*step + more
				want := step
				if length > 65536*step {
					for want = align; 65536*want < length; {
						want += align
					}
				}
				got, e := Cut(length, stripe, align)
				if e != api.OK || got[0].To != min(want, length) {
					t.Fatalf("Cut(%d, %d, %d): the step %d, %v; it is to be %d", length, stripe, align, got[0].To, e, want)
				}
				cuts(t, length, stripe, align)
			}
		}
	}
}

// Steps so great beside align that a lesser multiple would be enough too: it is taken only where the stripe's is not.
func TestCutGreatSteps(t *testing.T) {
	for _, align := range []int{1, 2, 100} {
		for _, stripe := range []int{65536 * align, 65537 * align, 100001, 1 << 23, 1<<24 - 1, 1 << 24} {
			step := max(align, stripe/align*align)
			for _, length := range []int{65534*step + 1, 65535 * step, 65535*step + 1, 65536*step - 1, 65536 * step, 65536*step + 1, 65537*step + 1} {
				cuts(t, length, stripe, align)
				if got, _ := Cut(length, stripe, align); (got[0].To == step) != (length <= 65536*step) {
					t.Errorf("Cut(%d, %d, %d): the step %d", length, stripe, align, got[0].To)
				}
			}
		}
	}
}

// Up to the greatest int, where a step more than the length is too great for one.
func TestCutGreatLengths(t *testing.T) {
	edges := []int{1, 2, 3, 5, 8, 100, 65535, 65536, 65537, 1<<24 - 2, 1<<24 - 1, 1 << 24}
	lengths := []int{math.MaxInt, math.MaxInt - 1, math.MaxInt - 65536, 1 << 62, 1<<62 + 1, 1<<62 - 1, 1 << 47, 1<<47 + 1, 1 << 40, 1<<40 + 1, 1<<40 - 1, 1<<40 + 65536, 1 << 32, 1<<31 - 1, 1<<24 + 1}
	for _, length := range lengths {
		for _, stripe := range edges {
			for _, align := range edges {
				if (stripe+align+length)%3 == 0 || stripe == align || length == math.MaxInt && align < 9 {
					cuts(t, length, stripe, align)
				}
			}
		}
	}
}

func TestCutThrown(t *testing.T) {
	d := dice(3)
	for range 300 {
		length := d.next(1<<30) << d.next(33) >> d.next(30)
		cuts(t, length, 1+d.next(1<<24)>>d.next(24), 1+d.next(1<<24)>>d.next(24))
	}
}

// Each error is a question of its own; the length's and the align's stand ahead of the stripe's.
func TestCutErrors(t *testing.T) {
	numbers := []int{math.MinInt, -1 << 32, -2, -1, 0, 1, 2, 1000, 1<<24 - 1, 1 << 24, 1<<24 + 1, 1 << 32, 1<<32 + 1, math.MaxInt}
	for _, length := range numbers {
		for _, stripe := range numbers {
			for _, align := range numbers {
				want := api.OK
				if length < 0 || align < 1 || align > 16777216 {
					want = api.ErrRange
				} else if stripe < 1 || stripe > 16777216 {
					want = api.ErrStripe
				}
				got, e := Cut(length, stripe, align)
				if e != want || (e != api.OK || length == 0) != (len(got) == 0) {
					t.Errorf("Cut(%d, %d, %d): %d spans, %v; it is to be %v", length, stripe, align, len(got), e, want)
				}
			}
		}
	}
}

// The spans are new memory.
func TestCutIsNew(t *testing.T) {
	first, _ := Cut(10, 4, 1)
	second, _ := Cut(10, 4, 1)
	for i := range first[:cap(first)] {
		first[:cap(first)][i] = api.Span{From: -1, To: -1}
	}
	third, _ := Cut(10, 4, 1)
	want := []api.Span{{From: 0, To: 4}, {From: 4, To: 8}, {From: 8, To: 10}}
	if !slices.Equal(second, want) || !slices.Equal(third, want) {
		t.Error(second, third)
	}
}
