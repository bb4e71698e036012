package pipes

import (
	"bytes"
	"errors"
	"testing"

	"cullet/api"
)

// P22.9, P1, P8 and the document's rules.

func TestNilObjects(t *testing.T) {
	var source *Source
	var sink *Sink
	for _, p := range [][]byte{nil, {}, {1}, {1, 2, 3}} {
		if n, err := source.Read(p); n != 0 || err != api.ErrNil {
			t.Error("a nil source's Read:", n, err)
		}
		if n, err := sink.Write(p); n != 0 || err != api.ErrNil {
			t.Error("a nil sink's Write:", n, err)
		}
		if n, err := Full(nil, p); n != 0 || err != api.ErrNil {
			t.Error("Full of nothing:", n, err)
		}
		if n, err := Put(nil, p); n != 0 || err != api.ErrNil {
			t.Error("Put into nothing:", n, err)
		}
		want := error(nil)
		if len(p) > 0 {
			want = api.ErrNil
		}
		if n, err := Full(source, p); n != 0 || err != want {
			t.Error("Full of a nil source:", n, err)
		}
		if n, err := Put(sink, p); n != 0 || err != want {
			t.Error("Put into a nil sink:", n, err)
		}
	}
	if source.Taken() != 0 || source.Failure() != nil || len(sink.Bytes()) != 0 || sink.Failure() != nil {
		t.Error("a nil object has something")
	}
	var broken *Broken
	if broken.Error() != "" {
		t.Error(broken.Error())
	}
}

// An empty p is nothing to read or write: nobody is asked.
func TestNobodyAsked(t *testing.T) {
	f := &foreign{steps: []step{{n: 0, panics: true}}}
	for _, p := range [][]byte{nil, {}, make([]byte, 4)[:0]} {
		n, err := Full(f, p)
		done, e := Put(f, p)
		if n != 0 || err != nil || done != 0 || e != nil || f.asked != 0 {
			t.Error(n, err, done, e, f.asked)
		}
	}
}

// valued has its methods on the value, so that a nil pointer to it can't be asked.
type valued struct{ n int }

func (v valued) Read(p []byte) (int, error)  { return v.n, nil }
func (v valued) Write(p []byte) (int, error) { return v.n, nil }

// asks is a function that reads and writes; it may be nil.
type asks func(p []byte) (int, error)

func (f asks) Read(p []byte) (int, error)  { return f(p) }
func (f asks) Write(p []byte) (int, error) { return f(p) }

// A reader or a writer that panics is one that answers no number of bytes.
func TestPanics(t *testing.T) {
	var pointer *valued
	var function asks
	calls := 0
	third := asks(func(p []byte) (int, error) {
		calls++
		if calls%3 == 0 {
			panic(errOdd)
		}
		return 1, nil
	})
	zero := asks(func(p []byte) (int, error) { panic(nil) })
	beyond := asks(func(p []byte) (int, error) { return len(p[:len(p)+1]), nil })
	p := make([]byte, 4)
	for _, c := range []struct {
		what string
		r    Reader
		w    Writer
		n    int
	}{
		{"a nil pointer", pointer, pointer, 0},
		{"a nil function", function, function, 0},
		{"at the third asking", third, third, 2},
		{"of nil", zero, zero, 0},
		{"beyond the capacity", beyond, beyond, 0},
	} {
		if n, err := Full(c.r, p); n != c.n || err != api.ErrRange {
			t.Errorf("Full, %s: %d, %v", c.what, n, err)
		}
		if n, err := Put(c.w, p); n != c.n || err != api.ErrRange {
			t.Errorf("Put, %s: %d, %v", c.what, n, err)
		}
	}
}

// Who is asked gets what is left of p, and none of its spare room.
func TestSpareRoom(t *testing.T) {
	greedy := asks(func(p []byte) (int, error) {
		_ = append(p, 66)
		whole := p[:cap(p)]
		for i := range whole {
			whole[i] = 66
		}
		return 1, nil
	})
	for length := 1; length < 6; length++ {
		for _, full := range []bool{true, false} {
			p, whole := room(make([]byte, length))
			var n int
			var err error
			if full {
				n, err = Full(greedy, p)
			} else {
				n, err = Put(greedy, p)
			}
			if n != length || err != nil || !bytes.Equal(whole[2+length:], []byte{203, 204, 205}) {
				t.Error(length, full, n, err, whole)
			}
		}
	}
}

// Calls end on objects that no maker made.
func TestMadeOtherwise(t *testing.T) {
	source, sink := &Source{}, &Sink{}
	made := NewSource([]byte{1, 2, 3}, api.ReadPlan{Chunks: []int{1}, FailAt: 2})
	taker := NewSink(api.WritePlan{FailAt: 2})
	again, other := *made, *taker
	p := make([]byte, 2)
	for _, s := range []*Source{source, &again, made} {
		s.Read(p)
		Full(s, p)
		s.Taken()
		s.Failure()
	}
	for _, s := range []*Sink{sink, &other, taker} {
		s.Write(p)
		Put(s, p)
		s.Bytes()
		s.Failure()
	}
}

// End and the failures are told apart, by == and by the library's ways.
func TestErrorsApart(t *testing.T) {
	if End.Error() != "end" || !errors.Is(End, End) {
		t.Error(End)
	}
	s := NewSource([]byte{1}, api.ReadPlan{FailAt: 1, Code: 12})
	_, err := Full(s, make([]byte, 2))
	var broken *Broken
	if errors.Is(err, End) || !errors.As(err, &broken) || broken.Code != 12 || !errors.Is(err, s.Failure()) {
		t.Error(err)
	}
	if other := NewSource([]byte{1}, api.ReadPlan{FailAt: 1, Code: 12}); errors.Is(err, other.Failure()) {
		t.Error("the failures of two sources are one")
	}
}
