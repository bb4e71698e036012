package pipes

import (
	"fmt"
	"math"
	"slices"
	"testing"

	"cullet/api"
)

// P22.1 to P22.4, of sources.

func TestSourceExamples(t *testing.T) {
	five := []byte{1, 2, 3, 4, 5}
	s := NewSource(five, api.ReadPlan{Chunks: []int{2, 0}, FailAt: -1})
	readOnce(t, "first", s, 4, []byte{1, 2}, nil)
	readOnce(t, "second", s, 4, nil, nil)
	readOnce(t, "third", s, 4, []byte{3, 4}, nil)
	readOnce(t, "empty", s, 0, nil, nil)
	readOnce(t, "fourth", s, 4, nil, nil)
	readOnce(t, "fifth", s, 4, []byte{5}, nil)
	readOnce(t, "end", s, 4, nil, End)
	readOnce(t, "end again", s, 4, nil, End)
	s = NewSource(five, api.ReadPlan{Chunks: []int{2, 0}, FailAt: 3, Code: 7})
	readOnce(t, "broken, first", s, 4, []byte{1, 2}, nil)
	readOnce(t, "broken, second", s, 4, nil, nil)
	readOnce(t, "broken, third", s, 4, []byte{3}, nil)
	readOnce(t, "broken", s, 4, nil, s.Failure())
	readOnce(t, "broken again", s, 4, nil, s.Failure())
	if s.Taken() != 3 || s.Failure().Error() != "broken 7" {
		t.Error(s.Taken(), s.Failure())
	}
}

// chunkLists: all lists of up to so many of the numbers.
func chunkLists(numbers []int, most int) [][]int {
	lists := [][]int{nil}
	for from := 0; most > 0; most-- {
		to := len(lists)
		for _, list := range lists[from:to] {
			for _, n := range numbers {
				lists = append(lists, append(slices.Clone(list), n))
			}
		}
		from = to
	}
	return lists
}

// follow reads by the lengths, one after the other, and holds each read against the model.
func follow(t *testing.T, data []byte, plan api.ReadPlan, lengths []int) {
	t.Helper()
	s := NewSource(data, plan)
	if s == nil || s.Taken() != 0 {
		t.Fatalf("%v, %v: not at the place 0", data, plan)
	}
	failure := s.Failure()
	m := &model{data: data, plan: plan}
	for i, length := range lengths {
		given, ends := m.read(length)
		readOnce(t, fmt.Sprintf("%v, %+v, read %d", data, plan, i), s, length, given, errorOf(ends, failure))
		if s.Taken() != m.place || s.Failure() != failure {
			t.Fatalf("%v, %+v, behind read %d: Taken %d, want %d; %v", data, plan, i, s.Taken(), m.place, s.Failure())
		}
	}
}

// All short plans, with reads of one length and of changing lengths, far beyond the end.
func TestSourceByModel(t *testing.T) {
	lists := chunkLists([]int{-1, 0, 1, 2, 5}, 3)
	ways := [][]int{slices.Repeat([]int{1}, 16), slices.Repeat([]int{9}, 14), {2, 0, 1, 3, 0, 0, 2, 1, 1, 4, 0, 2, 3, 1, 5, 1}}
	for size := range 6 {
		data := []byte{11, 12, 13, 14, 15}[:size]
		for _, chunks := range lists {
			for failAt := -2; failAt <= size+2; failAt++ {
				for _, way := range ways {
					follow(t, data, api.ReadPlan{Chunks: chunks, FailAt: failAt, Code: failAt + 40}, way)
				}
			}
		}
	}
}

func TestSourceThrown(t *testing.T) {
	d := dice(22)
	for range 1000 {
		data := d.bytes(d.next(300))
		plan := api.ReadPlan{Chunks: d.ints(d.next(8), -3, 30), FailAt: -20 + d.next(330), Code: d.next(100)}
		follow(t, data, plan, d.ints(60, 0, 40))
	}
}

// The greatest and the least numbers of a plan.
func TestSourceEdges(t *testing.T) {
	extremes := []int{math.MinInt, math.MinInt + 1, -1 << 32, -1 << 31, 1 << 31, 1 << 32, math.MaxInt - 1, math.MaxInt}
	for _, chunk := range extremes {
		for _, failAt := range append(extremes, -1, 0, 1, 2, 3) {
			follow(t, []byte{1, 2}, api.ReadPlan{Chunks: []int{chunk, 1}, FailAt: failAt, Code: chunk}, []int{1, 3, 0, 3, 3, 3})
		}
	}
}

// A read of an empty p comes ahead of the failure and of the end, and no read but one that may give counts as a turn.
func TestTurns(t *testing.T) {
	s := NewSource([]byte{1, 2, 3}, api.ReadPlan{Chunks: []int{1, 2}, FailAt: -1})
	readOnce(t, "empty, first", s, 0, nil, nil)
	readOnce(t, "first turn", s, 3, []byte{1}, nil)
	readOnce(t, "empty", s, 0, nil, nil)
	readOnce(t, "second turn", s, 3, []byte{2, 3}, nil)
	readOnce(t, "empty, at the end", s, 0, nil, nil)
	readOnce(t, "at the end", s, 3, nil, End)
	s = NewSource([]byte{1}, api.ReadPlan{FailAt: 0, Code: 3})
	readOnce(t, "empty, at the break", s, 0, nil, nil)
	readOnce(t, "at the break", s, 1, nil, s.Failure())
}

// A chunk of nothing goes ahead of nothing else: at the break and at the end its turn does not come.
func TestNothingAtTheEnd(t *testing.T) {
	s := NewSource([]byte{1}, api.ReadPlan{Chunks: []int{1, 0}, FailAt: -1})
	readOnce(t, "the byte", s, 9, []byte{1}, nil)
	readOnce(t, "the end", s, 9, nil, End)
	s = NewSource([]byte{1}, api.ReadPlan{Chunks: []int{1, 0}, FailAt: 1, Code: 2})
	readOnce(t, "the byte", s, 9, []byte{1}, nil)
	readOnce(t, "the break in the place of the end", s, 9, nil, s.Failure())
	s = NewSource([]byte{1}, api.ReadPlan{Chunks: []int{1, 0}, FailAt: 2, Code: 2})
	readOnce(t, "the byte", s, 9, []byte{1}, nil)
	readOnce(t, "a break behind the end", s, 9, nil, End)
}

// The turns go round the chunks for long.
func TestManyTurns(t *testing.T) {
	const rounds = 30000
	s := NewSource(make([]byte, 2*rounds+1), api.ReadPlan{Chunks: []int{0, 2, -7}, FailAt: -1})
	p := make([]byte, 3)
	for i := range 3 * rounds {
		want := 0
		if i%3 == 1 {
			want = 2
		}
		if n, err := s.Read(p); n != want || err != nil {
			t.Fatal(i, n, err)
		}
	}
	readOnce(t, "nothing, once more", s, 3, nil, nil)
	readOnce(t, "the last byte", s, 3, []byte{0}, nil)
	readOnce(t, "the end", s, 3, nil, End)
	if s.Taken() != 2*rounds+1 {
		t.Error(s.Taken())
	}
}

// A source goes by what its data and plan were when it was made.
func TestSourceCopies(t *testing.T) {
	data, whole := room([]byte{1, 2, 3})
	chunks := []int{2, 1, 44, 45}
	plan := api.ReadPlan{Chunks: chunks[:2], FailAt: -1}
	s := NewSource(data, plan)
	for i := range whole {
		whole[i] = 99
	}
	chunks[0], chunks[1] = 0, 0
	plan.FailAt = 0
	readOnce(t, "first", s, 3, []byte{1, 2}, nil)
	p := make([]byte, 3)
	if n, err := s.Read(p); n != 1 || err != nil || p[0] != 3 {
		t.Error(n, err, p)
	}
	p[0] = 50
	if data[0] != 99 || !slices.Equal(chunks, []int{0, 0, 44, 45}) {
		t.Error(data, chunks)
	}
	first, second := NewSource([]byte{8, 9}, plan), NewSource([]byte{8, 9}, plan)
	first.Read(p)
	if second.Taken() != 0 {
		t.Error("two sources of one plan move together")
	}
}

func TestFailures(t *testing.T) {
	codes := []int{0, 7, -1, math.MaxInt, math.MinInt}
	texts := []string{"broken 0", "broken 7", "broken -1", "broken 9223372036854775807", "broken -9223372036854775808"}
	var all []error
	for i, code := range codes {
		for _, failAt := range []int{0, 1, 5, math.MaxInt} {
			source := NewSource([]byte{1, 2}, api.ReadPlan{FailAt: failAt, Code: code})
			sink := NewSink(api.WritePlan{FailAt: failAt, Code: code})
			for _, f := range []error{source.Failure(), sink.Failure()} {
				if b, ok := f.(*Broken); !ok || b.Code != code || f.Error() != texts[i] || slices.Contains(all, f) {
					t.Errorf("FailAt %d, code %d: %v", failAt, code, f)
				}
				all = append(all, f)
			}
			if source.Failure() != all[len(all)-2] || sink.Failure() != all[len(all)-1] {
				t.Errorf("FailAt %d, code %d: another failure the second time", failAt, code)
			}
		}
		for _, failAt := range []int{-1, -2, math.MinInt} {
			if f := NewSource(nil, api.ReadPlan{FailAt: failAt, Code: code}).Failure(); f != nil {
				t.Errorf("a source with FailAt %d: %v", failAt, f)
			}
			if f := NewSink(api.WritePlan{FailAt: failAt, Code: code}).Failure(); f != nil {
				t.Errorf("a sink with FailAt %d: %v", failAt, f)
			}
		}
	}
}
