package engine

import (
	"bytes"
	"math"
	"slices"
	"testing"

	"cullet/api"
	"cullet/mend"
	"cullet/shape"
)

// P23.1 and P23.6.

// optionsError: the error of the options, each a question of its own.
func optionsError(o api.Options) api.Errno {
	within := func(n, least, most int) bool { return n >= least && n <= most }
	small := o.Family == api.Vander || o.Family == api.Cauchy
	fits := within(o.Data, 1, 65536) && within(o.Parity, 1, 65536)
	if small {
		fits = fits && o.Data+o.Parity <= 256
	} else {
		fits = fits && o.Data+powerAbove(o.Parity) <= 65536
	}
	switch {
	case !small && o.Family != api.Long:
		return api.ErrFamily
	case small && !within(int(o.Backend), int(api.Table), int(api.Sliced)), !small && o.Backend != api.Direct && o.Backend != api.Fast:
		return api.ErrBackend
	case !fits:
		return api.ErrParams
	case !within(o.Workers, 1, 64):
		return api.ErrWorkers
	case !within(o.Stripe, 1, 1<<24):
		return api.ErrStripe
	case !within(o.Cache, 1, 1024):
		return api.ErrRange
	}
	return api.OK
}

func checkNew(t *testing.T, o api.Options) {
	t.Helper()
	e, fault := New(o)
	if want := optionsError(o); fault != want || (e == nil) != (fault != api.OK) {
		t.Fatalf("New(%+v): %v, %d, want %d", o, e != nil, fault, want)
	}
	if fault != api.OK {
		return
	}
	got, fault := e.Options()
	if fault != api.OK || !sameOptions(got, o) {
		t.Fatalf("Options: %+v, %d, want %+v", got, fault, o)
	}
}

// sameOptions: nil and empty picks are one.
func sameOptions(a, b api.Options) bool {
	picks := slices.Equal(a.Picks, b.Picks)
	a.Picks, b.Picks = nil, nil
	return picks && a.Family == b.Family && a.Backend == b.Backend && a.Data == b.Data && a.Parity == b.Parity && a.Workers == b.Workers && a.Stripe == b.Stripe && a.Cache == b.Cache && a.Scripted == b.Scripted
}

// Every family with every backend, by numbers at the limits and beside them.
func TestNew(t *testing.T) {
	const least, most = math.MinInt, math.MaxInt
	bounds := [][3]int{{1, 1, 1}, {64, 1 << 24, 1024}, {0, 1, 1}, {65, 1, 1}, {1, 0, 1}, {1, 1<<24 + 1, 1}, {1, 1, 0}, {1, 1, 1025}, {0, 0, 0}, {1, 0, 0}, {least, most, least}, {2, least, most}, {3, 3, most}, {-1, 1 << 32, -1}}
	pairs := [][2]int{{1, 1}, {2, 1}, {200, 56}, {200, 57}, {255, 1}, {256, 1}, {1, 255}, {0, 1}, {1, 0}, {-1, 2}, {2, -1}, {65535, 1}, {65536, 1}, {32768, 32768}, {32769, 32767}, {1, 32769}, {most, 1}, {1, most}, {most, most}, {least, most}, {least, least}}
	for f := api.Family(-1); f <= 4; f++ {
		for b := api.Backend(-1); b <= 6; b++ {
			for _, p := range pairs {
				for _, n := range bounds {
					checkNew(t, api.Options{Family: f, Backend: b, Data: p[0], Parity: p[1], Workers: n[0], Stripe: n[1], Cache: n[2]})
				}
			}
		}
	}
	for _, scripted := range []bool{false, true} {
		for _, picks := range [][]int{nil, {}, {0}, {least, most, -1, 5}, make([]int, 1000)} {
			for _, s := range small() {
				o := s.options()
				o.Scripted, o.Picks = scripted, picks
				checkNew(t, o)
			}
		}
	}
}

// The options are the engine's own: neither what is done to those that were handed in nor to those that are answered changes them.
func TestOptionsAreCopied(t *testing.T) {
	o := setting{api.Vander, 2, 1}.options()
	o.Scripted, o.Picks = true, append(make([]int, 0, 9), 4, -5)
	e := made(t, o)
	o.Picks[0] = 9
	for range 3 {
		got, fault := e.Options()
		if fault != api.OK || !slices.Equal(got.Picks, []int{4, -5}) {
			t.Fatalf("Options: %v, %d", got.Picks, fault)
		}
		for i := range got.Picks[:cap(got.Picks)] {
			got.Picks[:cap(got.Picks)][i] = 77
		}
	}
}

// Each engine is a new one, with a cache of its own.
func TestEnginesAreNew(t *testing.T) {
	o := setting{api.Vander, 2, 1}.options()
	a, b := made(t, o), made(t, o)
	if a == b || a.Reconstruct([][]byte{nil, {7, 1}, {1, 2}}) != api.OK || len(a.Cached()) != 1 || len(b.Cached()) != 0 {
		t.Errorf("two engines: %v and %v", a.Cached(), b.Cached())
	}
}

// Correct, Split and Join are those of the layers below, with the engine's parameters.
func TestCallsOfOtherLayers(t *testing.T) {
	d := dice(2)
	for _, s := range append(small(), setting{api.Vander, 10, 4}, setting{api.Cauchy, 6, 7}, setting{api.Long, 10, 5}) {
		e := made(t, s.options())
		for n := range 40 {
			data := d.bytes(n)
			got, fault := e.Split(data)
			want, wantFault := shape.Split(s.f, s.k, s.m, data)
			if fault != wantFault || !alike(got, want) {
				t.Fatalf("Split, %v, %d bytes: %v, %d, want %v, %d", s, n, got, fault, want, wantFault)
			}
			for _, size := range []int{math.MinInt, -1, 0, 1, n, n + 1, n + s.k*s.width(), math.MaxInt} {
				for _, shards := range [][][]byte{got, without(got, between(0, len(got)/2)), nil, got[:len(got)/2]} {
					b, fault := e.Join(shards, size)
					wantBytes, wantFault := shape.Join(s.f, s.k, s.m, shards, size)
					if fault != wantFault || !bytes.Equal(b, wantBytes) {
						t.Fatalf("Join, %v, %d bytes: %v, %d, want %v, %d", s, size, b, fault, wantBytes, wantFault)
					}
				}
			}
		}
		for range 40 {
			spoilt := d.spoilt(d.codeword(s, 6))
			spoilt = without(spoilt, d.some(d.next(s.m+2), s.count()))
			checkCorrect(t, e, s, spoilt)
		}
		checkCorrect(t, e, s, nil)
		checkCorrect(t, e, s, shardsOf(1, 2, 3))
		checkCorrect(t, e, s, make([][]byte, s.count()))
		if len(e.Cached()) != 0 {
			t.Fatalf("%v: the cache is used by Correct, Split or Join: %v", s, e.Cached())
		}
	}
}

// spoilt: the shards with some bytes changed.
func (d *dice) spoilt(shards [][]byte) [][]byte {
	for range d.next(3) {
		shard := shards[d.next(len(shards))]
		shard[d.next(len(shard))] ^= byte(1 + d.next(255))
	}
	return shards
}

func checkCorrect(t *testing.T, e *Engine, s setting, shards [][]byte) {
	t.Helper()
	want := copies(shards)
	wantWrong, wantFault := mend.Shards(s.f, s.k, s.m, want)
	wrong, fault := e.Correct(shards)
	if fault != wantFault || !slices.Equal(wrong, wantWrong) || !alike(shards, want) {
		t.Fatalf("Correct, %v: %v, %d, want %v, %d, or other shards", s, wrong, fault, wantWrong, wantFault)
	}
}

// The document's seventh example: wrong bytes that nobody has marked are mended.
func TestCorrect(t *testing.T) {
	e := made(t, setting{api.Vander, 1, 2}.options())
	shards := [][]byte{{5, 1}, {5, 2}, {6, 2}}
	if wrong, fault := e.Correct(shards); fault != api.OK || !slices.Equal(wrong, []int{0, 2}) || !alike(shards, [][]byte{{5, 2}, {5, 2}, {5, 2}}) {
		t.Errorf("Correct: %v, %d, %v", wrong, fault, shards)
	}
	long := made(t, setting{api.Long, 1, 2}.options())
	if wrong, fault := long.Correct([][]byte{{5, 2}, {5, 2}, {5, 2}}); fault != api.ErrFamily || len(wrong) != 0 {
		t.Errorf("Correct of Long: %v, %d", wrong, fault)
	}
}
