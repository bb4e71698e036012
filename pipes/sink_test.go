package pipes

import (
	"bytes"
	"math"
	"slices"
	"testing"

	"cullet/api"
)

// P22.1, P22.5 and P22.6.

// writeOnce holds one Write against what it should answer; what is written must stay as it is.
func writeOnce(t *testing.T, s *Sink, list []byte, n int, err error) {
	t.Helper()
	p, whole := room(list)
	_, was := room(list)
	if got, e := s.Write(p); got != n || e != err || !bytes.Equal(whole, was) {
		t.Fatalf("a write of %v: %d, %v, %v; it is to be %d, %v", list, got, e, whole, n, err)
	}
	for i := range whole {
		whole[i] = 99 // a sink that kept the list would tell
	}
}

func TestSinkExamples(t *testing.T) {
	s := NewSink(api.WritePlan{FailAt: 3, Code: 4})
	if len(s.Bytes()) != 0 {
		t.Error("a new sink has bytes")
	}
	writeOnce(t, s, []byte{1, 2}, 2, nil)
	writeOnce(t, s, []byte{3, 4}, 1, s.Failure())
	writeOnce(t, s, nil, 0, nil)
	writeOnce(t, s, []byte{5}, 0, s.Failure())
	if !bytes.Equal(s.Bytes(), []byte{1, 2, 3}) || s.Failure().Error() != "broken 4" {
		t.Error(s.Bytes(), s.Failure())
	}
	s = NewSink(api.WritePlan{FailAt: 3})
	writeOnce(t, s, []byte{1, 2, 3}, 3, nil)
	writeOnce(t, s, []byte{4}, 0, s.Failure())
	s = NewSink(api.WritePlan{FailAt: 3})
	if n, err := Put(s, []byte{1, 2, 3, 4}); n != 3 || err != s.Failure() || !bytes.Equal(s.Bytes(), []byte{1, 2, 3}) {
		t.Error(n, err, s.Bytes())
	}
}

// All ways of four writes of 0 to 3 bytes, and each break.
func TestSinkByModel(t *testing.T) {
	for way := range 256 {
		for failAt := -3; failAt <= 13; failAt++ {
			s := NewSink(api.WritePlan{FailAt: failAt, Code: way})
			failure := s.Failure()
			var taken []byte
			for i := range 4 {
				p := []byte{byte(10 * i), byte(10*i + 1), byte(10*i + 2)}[:way>>(2*i)&3]
				n, err := len(p), error(nil)
				if failAt >= 0 && failAt-len(taken) < len(p) {
					n, err = failAt-len(taken), failure
				}
				writeOnce(t, s, p, n, err)
				taken = append(taken, p[:n]...)
				if !bytes.Equal(s.Bytes(), taken) || s.Failure() != failure {
					t.Fatalf("way %d, FailAt %d, write %d: %v, it is to be %v", way, failAt, i, s.Bytes(), taken)
				}
			}
		}
	}
}

func TestSinkEdges(t *testing.T) {
	for _, failAt := range []int{math.MinInt, math.MinInt + 1, -1 << 32, 1 << 31, 1 << 32, math.MaxInt} {
		s := NewSink(api.WritePlan{FailAt: failAt})
		writeOnce(t, s, []byte{1, 2}, 2, nil)
		writeOnce(t, s, nil, 0, nil)
		writeOnce(t, s, []byte{3}, 1, nil)
		if !bytes.Equal(s.Bytes(), []byte{1, 2, 3}) {
			t.Error(failAt, s.Bytes())
		}
	}
	s := NewSink(api.WritePlan{FailAt: 0, Code: -1})
	writeOnce(t, s, nil, 0, nil)
	writeOnce(t, s, []byte{1}, 0, s.Failure())
	writeOnce(t, s, []byte{1, 2}, 0, s.Failure())
	if len(s.Bytes()) != 0 || s.Failure().Error() != "broken -1" {
		t.Error(s.Bytes(), s.Failure())
	}
}

// What Bytes answers is new memory each time, its spare room too.
func TestBytesAreNew(t *testing.T) {
	s := NewSink(api.WritePlan{FailAt: -1})
	var taken []byte
	var old [][]byte
	d := dice(6)
	for range 60 {
		p := d.bytes(d.next(9))
		writeOnce(t, s, p, len(p), nil)
		taken = append(taken, p...)
		first, second := s.Bytes(), s.Bytes()
		if !bytes.Equal(first, taken) || !bytes.Equal(second, taken) {
			t.Fatal(first, second, taken)
		}
		for i := range first[:cap(first)] {
			first[:cap(first)][i] = 88
		}
		if !bytes.Equal(second, taken) || !bytes.Equal(s.Bytes(), taken) {
			t.Fatal("an answer shares memory")
		}
		old = append(old, second)
	}
	for _, list := range old {
		if !bytes.Equal(list, taken[:len(list)]) {
			t.Fatal("an older answer has changed")
		}
	}
}

// Two sinks of one plan have nothing in common.
func TestTwoSinks(t *testing.T) {
	plan := api.WritePlan{FailAt: 1, Code: 5}
	a, b := NewSink(plan), NewSink(plan)
	writeOnce(t, a, []byte{1, 2}, 1, a.Failure())
	writeOnce(t, b, []byte{3}, 1, nil)
	if a.Failure() == b.Failure() || !slices.Equal(a.Bytes(), []byte{1}) || !slices.Equal(b.Bytes(), []byte{3}) {
		t.Error(a.Bytes(), b.Bytes())
	}
}
