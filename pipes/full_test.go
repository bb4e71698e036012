package pipes

import (
	"bytes"
	"fmt"
	"math"
	"slices"
	"testing"

	"cullet/api"
)

// P22.7 and P22.8.

func TestFullExamples(t *testing.T) {
	s := NewSource([]byte{1, 2, 3, 4, 5}, api.ReadPlan{Chunks: []int{2, 0}, FailAt: -1})
	p := make([]byte, 4)
	if n, err := Full(s, p); n != 4 || err != nil || !bytes.Equal(p, []byte{1, 2, 3, 4}) {
		t.Error(n, err, p)
	}
	if n, err := Full(s, p); n != 1 || err != End || !bytes.Equal(p, []byte{5, 2, 3, 4}) {
		t.Error(n, err, p)
	}
	s = NewSource([]byte{1}, api.ReadPlan{Chunks: []int{0}, FailAt: -1})
	if n, err := Full(s, p); n != 0 || err != api.ErrShort || s.Taken() != 0 {
		t.Error(n, err, s.Taken())
	}
	if n, err := Full(nil, p); n != 0 || err != api.ErrNil {
		t.Error(n, err)
	}
}

// both holds Full and Put over these steps against the chapter's words: the answers, the number of askings, and what is handed on each time.
func both(t *testing.T, steps []step, length int) {
	t.Helper()
	n, err, asked := moved(steps, length)
	for _, call := range []string{"Full", "Put"} {
		f := &foreign{steps: steps}
		list := bytes.Repeat([]byte{150}, length)
		for i := range list {
			list[i] += byte(i % 50)
		}
		p, whole := room(list)
		var got int
		var e error
		if call == "Full" {
			got, e = Full(f, p)
		} else {
			got, e = Put(f, p)
		}
		what := fmt.Sprintf("%s of %d bytes, %+v", call, length, steps)
		if got != n || e != err || f.asked != asked {
			t.Fatalf("%s: %d, %v, %d askings; it is to be %d, %v, %d", what, got, e, f.asked, n, err, asked)
		}
		left := length
		for i, handed := range f.lengths {
			if handed != left || f.heads[i] != &p[length-left] {
				t.Fatalf("%s: asking %d is handed %d bytes, %d are left", what, i, handed, left)
			}
			left -= steps[min(i, len(steps)-1)].n
		}
		if whole[0] != 201 || whole[1] != 202 || !bytes.Equal(whole[2+length:], []byte{203, 204, 205}) {
			t.Fatalf("%s: what lies around p has changed: %v", what, whole)
		}
		if call == "Put" && (!bytes.Equal(p, list) || !bytes.Equal(f.written[:n], list[:n])) {
			t.Fatalf("%s: %v of %v were written", what, f.written, list)
		}
		if call == "Full" && !bytes.Equal(p[:n], filled(steps, n)) {
			t.Fatalf("%s: %v, it is to begin with %v", what, p, filled(steps, n))
		}
	}
}

// filled: the first n bytes that a foreign reader with these steps fills in.
func filled(steps []step, n int) []byte {
	var list []byte
	for i := 0; len(list) < n; i++ {
		list = append(list, bytes.Repeat([]byte{byte(i + 1)}, steps[min(i, len(steps)-1)].n)...)
	}
	return list
}

// All lists of up to three steps over a few bytes.
func TestMovesByModel(t *testing.T) {
	var kinds []step
	for _, n := range []int{-1, 0, 1, 2, 4} {
		kinds = append(kinds, step{n: n}, step{n: n, err: errOdd})
	}
	kinds = append(kinds, step{n: 1, panics: true})
	lists := [][]step{}
	for _, a := range kinds {
		lists = append(lists, []step{a})
		for _, b := range kinds {
			lists = append(lists, []step{a, b})
			for _, c := range kinds {
				lists = append(lists, []step{a, b, c})
			}
		}
	}
	for _, steps := range lists {
		for length := range 6 {
			both(t, steps, length)
		}
	}
}

// Each kind of error goes through as it is, the very same value.
func TestMovesErrors(t *testing.T) {
	var none *Broken
	for _, err := range []error{errOdd, End, &Broken{Code: 1}, none, api.ErrNil, api.ErrShort, api.OK, api.Errno(-5)} {
		for _, n := range []int{0, 1, 2, 3, 4, math.MinInt, math.MaxInt} {
			both(t, []step{{n: n, err: err}}, 3)
			both(t, []step{{n: 1}, {n: n, err: err}}, 4)
			both(t, []step{{n: 0}, {n: 0, err: err}}, 1)
		}
	}
}

// It is a hundred askings one after another that give nothing, no fewer, and not a hundred in all.
func TestNothings(t *testing.T) {
	none := func(count int) []step { return make([]step, count) }
	one := []step{{n: 1}}
	for _, count := range []int{0, 1, 98, 99, 100, 101, 150} {
		both(t, slices.Concat(none(count), one), 1)
		both(t, slices.Concat(none(count), one), 3)
		both(t, slices.Concat(none(count), []step{{n: 0, err: errOdd}}), 2)
		both(t, slices.Concat(one, none(count), one), 2)
		both(t, slices.Concat(none(count), one, none(count), one), 2)
		both(t, slices.Concat(none(99), one, none(99), one, none(count), one), 3)
	}
	chunks := make([]int, 100)
	for _, at := range []int{0, 50, 99} {
		clear(chunks)
		chunks[at] = 1
		p := make([]byte, 5)
		s := NewSource([]byte{1, 2, 3, 4, 5}, api.ReadPlan{Chunks: chunks, FailAt: -1})
		if n, err := Full(s, p); n != 5 || err != nil || !bytes.Equal(p, []byte{1, 2, 3, 4, 5}) {
			t.Error(at, n, err, p)
		}
		s = NewSource([]byte{1, 2, 3, 4, 5}, api.ReadPlan{Chunks: append(chunks, 0), FailAt: -1})
		if n, err := Full(s, p); n != 1 || err != api.ErrShort {
			t.Error(at, n, err)
		}
	}
}

// Of a source whatever its chunks are: all bytes up to the break or the end, in pieces of any length, and what ended it.
func TestFullOfSources(t *testing.T) {
	d := dice(7)
	for range 2000 {
		data := d.bytes(d.next(60))
		plan := api.ReadPlan{Chunks: d.ints(d.next(6), 0, 9), FailAt: -5 + d.next(70), Code: 9}
		if slices.Max(append(plan.Chunks, 0)) == 0 {
			plan.Chunks = nil
		}
		s := NewSource(data, plan)
		upTo, ends := len(data), End
		if plan.FailAt >= 0 && plan.FailAt <= len(data) {
			upTo, ends = plan.FailAt, s.Failure()
		}
		for at := 0; ; {
			p := make([]byte, 1+d.next(20))
			n, err := Full(s, p)
			want := min(len(p), upTo-at)
			if n != want || !bytes.Equal(p[:n], data[at:at+n]) || (err == nil) != (n == len(p)) {
				t.Fatalf("%v, %+v at %d: %d, %v", data, plan, at, n, err)
			}
			at += n
			if s.Taken() != at {
				t.Fatalf("%d taken, it is to be %d", s.Taken(), at)
			}
			if err != nil {
				if err != ends {
					t.Fatalf("%v, %+v: %v", data, plan, err)
				}
				break
			}
		}
	}
}

// Full into a sink by Put, piece by piece, gives the bytes on.
func TestThrough(t *testing.T) {
	d := dice(8)
	data := d.bytes(5000)
	source := NewSource(data, api.ReadPlan{Chunks: []int{3, 0, 700, 1}, FailAt: -1})
	sink := NewSink(api.WritePlan{FailAt: 4000})
	for {
		p := make([]byte, 64)
		n, err := Full(source, p)
		done, broken := Put(sink, p[:n])
		if broken != nil {
			if broken != sink.Failure() || done != 4000%64 || err != nil {
				t.Error(done, broken, err)
			}
			break
		}
		if done != n || err != nil {
			t.Fatal(done, n, err)
		}
	}
	if !bytes.Equal(sink.Bytes(), data[:4000]) {
		t.Error("other bytes came through")
	}
}
