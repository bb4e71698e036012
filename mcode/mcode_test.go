package mcode

import (
	"bytes"
	"math"
	"slices"
	"testing"

	"cullet/api"
)

// P17.1

// newError: the first error in the promise's order, by sums that don't leave an int.
func newError(f api.Family, b api.Backend, k, m int) api.Errno {
	switch {
	case f != 0 && f != 1:
		return api.ErrFamily
	case b != 0 && b != 1 && b != 2:
		return api.ErrBackend
	case k < 1 || m < 1 || k > 256 || m > 256 || k+m > 256:
		return api.ErrParams
	}
	return api.OK
}

func checkNew(t *testing.T, f api.Family, b api.Backend, k, m int) {
	t.Helper()
	c, e := New(f, b, k, m)
	if e != newError(f, b, k, m) || (c == nil) != (e != api.OK) {
		t.Errorf("New(%d, %d, %d, %d): %v, %d", f, b, k, m, c, e)
	}
}

func extremes() []int {
	return []int{math.MinInt, math.MinInt + 1, math.MinInt + 255, math.MinInt / 2, math.MinInt32, -1 << 32, -65536, -256, -255, -1, 0, 255, 256, 257, 65535, 1 << 32, 1<<32 + 1, 1 << 62, math.MaxInt32, math.MaxInt/2 + 1, math.MaxInt - 255, math.MaxInt - 1, math.MaxInt}
}

func TestNewAtWrongArguments(t *testing.T) {
	kinds := append(extremes(), 1, 2, 3, 4, 5, 9)
	for _, f := range kinds {
		for _, b := range kinds {
			for _, p := range [][2]int{{2, 1}, {0, 1}, {200, 57}, {math.MaxInt, math.MaxInt}} {
				checkNew(t, api.Family(f), api.Backend(b), p[0], p[1])
			}
		}
	}
	for _, f := range []api.Family{api.Vander, api.Cauchy} {
		for _, k := range append(extremes(), 1, 128) {
			for _, m := range append(extremes(), 1, 128) {
				checkNew(t, f, api.Table, k, m)
			}
		}
	}
}

func TestNewAtTheLimit(t *testing.T) {
	for _, f := range []api.Family{api.Vander, api.Cauchy} {
		for k := -1; k <= 258; k += 3 {
			for total := 254; total <= 258; total++ {
				checkNew(t, f, backends()[total%3], k, total-k)
			}
		}
		for k := -1; k < 7; k++ {
			for m := -1; m < 7; m++ {
				for _, b := range backends() {
					checkNew(t, f, b, k, m)
				}
			}
		}
	}
}

// Each codec is a new one, with a cache of its own.
func TestNewEachTimeANewOne(t *testing.T) {
	s := setting{api.Vander, 3, 2}
	one, other := s.codec(t, api.Table), s.codec(t, api.Table)
	if one == other {
		t.Fatal("New has answered the same codec twice")
	}
	one.Plan([]int{1})
	if one.Cached() != 1 || other.Cached() != 0 {
		t.Errorf("Cached of one %d, of the other %d", one.Cached(), other.Cached())
	}
}

// P17.2 and P17.3

func TestEncodeExamples(t *testing.T) {
	for _, x := range []struct {
		s            setting
		data, parity [][]byte
	}{
		{setting{api.Vander, 2, 1}, [][]byte{{5, 0}, {7, 1}}, [][]byte{{1, 2}}},
		{setting{api.Vander, 2, 2}, [][]byte{{1}, {0}}, [][]byte{{3}, {2}}},
		{setting{api.Cauchy, 2, 1}, [][]byte{{1}, {0}}, [][]byte{{0x8E}}},
		{setting{api.Vander, 1, 2}, [][]byte{{5, 2}}, [][]byte{{5, 2}, {5, 2}}},
	} {
		for _, c := range x.s.codecs(t) {
			shards := copies(x.data)
			for range x.s.m {
				shards = append(shards, make([]byte, len(x.data[0])))
			}
			if e := c.Encode(shards); e != api.OK || !alike(shards, slices.Concat(x.data, x.parity)) {
				t.Errorf("Encode, %v: %d, %v", x.s, e, shards)
			}
		}
	}
}

// lengthsFor: of shards, so that a great code's tests take no long time.
func lengthsFor(s setting) []int {
	if s.k*s.m > 1000 {
		return []int{1, 9}
	}
	return []int{1, 2, 7, 8, 9, 16, 31, 64, 65, 200}
}

// The parity is that of the codeword, whatever stood there, in the same memory; nothing else is written.
func TestEncodeGivesTheCodeword(t *testing.T) {
	d := dice(1)
	for _, s := range append(small(), great()...) {
		parity := firstOf(s.k + s.m)[s.k:]
		for _, c := range s.codecs(t) {
			for _, n := range lengthsFor(s) {
				want := d.codeword(s, n)
				was := append(copies(want[:s.k]), d.shards(s.m, n)...)
				about := stage(was)
				if e := c.Encode(about.shards); e != api.OK || !alike(about.shards, want) || !about.kept(nil, parity) {
					t.Fatalf("Encode, %v, %d bytes: %d, or other bytes", s, n, e)
				}
			}
			if c.Cached() != 0 {
				t.Errorf("Encode, %v: Cached is %d", s, c.Cached())
			}
		}
	}
}

// Long shards, at which a kernel works in more than one piece.
func TestEncodeLongShards(t *testing.T) {
	d := dice(2)
	for _, s := range both([][2]int{{3, 2}}) {
		want := d.codeword(s, 20003)
		for _, c := range s.codecs(t) {
			shards := append(copies(want[:s.k]), d.shards(s.m, 20003)...)
			if e := c.Encode(shards); e != api.OK || !alike(shards, want) {
				t.Errorf("Encode, %v, long shards: %d, or other bytes", s, e)
			}
			if ok, e := c.Verify(shards); !ok || e != api.OK {
				t.Errorf("Verify, %v, long shards: %v, %d", s, ok, e)
			}
			shards[4][20002] ^= 1
			if ok, e := c.Verify(shards); ok || e != api.OK {
				t.Errorf("Verify, %v, the last byte of long shards turned: %v, %d", s, ok, e)
			}
		}
	}
}

// Every value of a data byte beside fixed others.
func TestEncodeEveryByte(t *testing.T) {
	for _, s := range both([][2]int{{3, 3}}) {
		for at := range s.k {
			was := make([][]byte, s.k+s.m)
			for i := range was {
				was[i] = bytes.Repeat([]byte{byte(7 * i)}, 256)
			}
			for x := range 256 {
				was[at][x] = byte(x)
			}
			want := s.encoded(was, api.Span{To: 256})
			for _, c := range s.codecs(t) {
				shards := copies(was)
				if e := c.Encode(shards); e != api.OK || !alike(shards, want) {
					t.Errorf("Encode, %v, each byte of shard %d: %d, or other bytes", s, at, e)
				}
			}
		}
	}
}

func TestEncodeSpanAtEverySpan(t *testing.T) {
	d := dice(3)
	for _, s := range append(small(), both([][2]int{{10, 4}})...) {
		parity := firstOf(s.k + s.m)[s.k:]
		for _, c := range s.codecs(t) {
			for _, n := range []int{1, 2, 11, 19} {
				was := d.shards(s.k+s.m, n)
				for _, span := range spansOf(n) {
					about := stage(was)
					e := c.EncodeSpan(about.shards, span)
					if e != api.OK || !alike(about.shards, s.encoded(was, span)) || !about.kept(nil, parity) {
						t.Fatalf("EncodeSpan, %v, %v of %d bytes: %d, or other bytes", s, span, n, e)
					}
				}
			}
		}
	}
}

// Spans one behind another do what Encode does.
func TestEncodeSpanBySpan(t *testing.T) {
	d := dice(4)
	for _, s := range great() {
		want := d.codeword(s, 24)
		c := s.codec(t, api.Sliced)
		shards := append(copies(want[:s.k]), d.shards(s.m, 24)...)
		for _, cut := range [][2]int{{17, 24}, {0, 3}, {3, 3}, {3, 16}, {16, 17}} {
			if e := c.EncodeSpan(shards, api.Span{From: cut[0], To: cut[1]}); e != api.OK {
				t.Fatalf("EncodeSpan, %v, %v: %d", s, cut, e)
			}
		}
		if !alike(shards, want) {
			t.Errorf("EncodeSpan, %v: the spans make another codeword", s)
		}
	}
}

// P17.4

func checkVerify(t *testing.T, c *Codec, s setting, shards [][]byte, want bool) {
	t.Helper()
	about := stage(shards)
	if ok, e := c.Verify(about.shards); ok != want || e != api.OK || !about.kept(nil, nil) {
		t.Errorf("Verify, %v, %v: %v, %d, or something is changed", s, shards, ok, e)
	}
}

func TestVerifyOfCodewordsAndOthers(t *testing.T) {
	d := dice(5)
	for _, s := range append(small(), great()...) {
		for _, c := range s.codecs(t) {
			shards := d.codeword(s, 13)
			checkVerify(t, c, s, shards, true)
			for range 20 {
				turned := copies(shards)
				for _, i := range d.some(1+d.next(s.m), s.k+s.m) {
					turned[i][d.next(13)] ^= byte(1 + d.next(255))
				}
				checkVerify(t, c, s, turned, false)
			}
			if c.Cached() != 0 {
				t.Errorf("Verify, %v: Cached is %d", s, c.Cached())
			}
		}
	}
}

// Each bit of each byte turned is told; so is each span that has it, and no other.
func TestVerifySpanOfEachTurnedByte(t *testing.T) {
	d := dice(6)
	for _, s := range small() {
		for _, c := range s.codecs(t) {
			shards := d.codeword(s, 10)
			for i := range shards {
				for at := range shards[i] {
					bit := byte(1) << d.next(8)
					shards[i][at] ^= bit
					if ok, e := c.Verify(shards); ok || e != api.OK {
						t.Fatalf("Verify, %v, shard %d turned at %d: %v, %d", s, i, at, ok, e)
					}
					for _, span := range spansOf(10) {
						want := at < span.From || at >= span.To
						if ok, e := c.VerifySpan(shards, span); ok != want || e != api.OK {
							t.Fatalf("VerifySpan, %v, %v, shard %d turned at %d: %v, %d", s, span, i, at, ok, e)
						}
					}
					shards[i][at] ^= bit
				}
			}
		}
	}
}

// All contents of small codes: true just where they are a codeword.
func TestVerifyOfAllContents(t *testing.T) {
	for _, s := range both([][2]int{{1, 1}, {1, 2}, {2, 1}}) {
		c := s.codec(t, api.Nibble)
		rows := s.parityRows()
		shards := make([][]byte, s.k+s.m)
		for i := range shards {
			shards[i] = make([]byte, 1)
		}
		for n := range 1 << 16 {
			// Of three shards the third goes through few values, the right one among them.
			shards[0][0], shards[1][0] = byte(n), byte(n>>8)
			last := shards[s.k+s.m-1]
			for try := range 3 {
				if s.k+s.m == 3 {
					last[0] = sum(rows[s.m-1], shards[:s.k], 0) ^ byte(try*n)
				}
				want := true
				for j, row := range rows {
					want = want && shards[s.k+j][0] == sum(row, shards[:s.k], 0)
				}
				if ok, e := c.Verify(shards); ok != want || e != api.OK {
					t.Fatalf("Verify, %v, %v: %v, %d", s, shards, ok, e)
				}
			}
		}
	}
}

func TestVerifyExamples(t *testing.T) {
	for _, c := range (setting{api.Vander, 2, 1}).codecs(t) {
		shards := [][]byte{{5, 0}, {7, 1}, {0, 2}}
		for _, x := range []struct {
			span api.Span
			ok   bool
			e    api.Errno
		}{
			{api.Span{From: 1, To: 2}, true, api.OK},
			{api.Span{From: 0, To: 0}, true, api.OK},
			{api.Span{From: 0, To: 2}, false, api.OK},
			{api.Span{From: 1, To: 3}, false, api.ErrRange},
		} {
			if ok, e := c.VerifySpan(shards, x.span); ok != x.ok || e != x.e {
				t.Errorf("VerifySpan of %v: %v, %d", x.span, ok, e)
			}
		}
	}
}
