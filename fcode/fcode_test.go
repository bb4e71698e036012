package fcode

import (
	"bytes"
	"math"
	"slices"
	"testing"

	"cullet/api"
)

// P18.1

// newError: the first error in the promise's order, by sums that don't leave an int.
func newError(b api.Backend, k, m int) api.Errno {
	switch {
	case b != 3 && b != 4:
		return api.ErrBackend
	case k < 1 || m < 1 || k > 65536 || m > 65536 || doubled(m)+k > 65536:
		return api.ErrParams
	}
	return api.OK
}

func checkNew(t *testing.T, b api.Backend, k, m int) {
	t.Helper()
	c, e := New(b, k, m)
	if e != newError(b, k, m) || (c == nil) != (e != api.OK) {
		t.Errorf("New(%d, %d, %d): %v, %d", b, k, m, c, e)
	}
}

func extremes() []int {
	return []int{math.MinInt, math.MinInt + 1, math.MinInt + 65535, math.MinInt / 2, math.MinInt32, -1 << 32, -65536, -65535, -1, 0, 65536, 65537, 1 << 32, 1<<32 + 1, 1 << 62, math.MaxInt32, math.MaxInt/2 + 1, math.MaxInt - 65535, math.MaxInt - 1, math.MaxInt}
}

func TestNewAtWrongArguments(t *testing.T) {
	for _, b := range append(extremes(), 1, 2, 3, 4, 5, 9) {
		for _, p := range [][2]int{{2, 1}, {0, 1}, {1, 0}, {65536, 1}, {math.MaxInt, math.MaxInt}} {
			checkNew(t, api.Backend(b), p[0], p[1])
		}
	}
	for _, k := range append(extremes(), 1, 65535) {
		for _, m := range append(extremes(), 1, 32769, 65535) {
			checkNew(t, api.Fast, k, m)
			checkNew(t, api.Direct, k, m)
		}
	}
}

// The greatest k for each power of two, and one more.
func TestNewAtTheLimit(t *testing.T) {
	for u := range 17 {
		for _, m := range []int{1<<u/2 + 1, 1<<u - 1, 1 << u} {
			for _, k := range []int{65535 - 1<<u, 65536 - 1<<u, 65537 - 1<<u} {
				checkNew(t, backends()[(k+m)%2], k, m)
			}
		}
	}
	for k := -1; k < 7; k++ {
		for m := -1; m < 7; m++ {
			for _, b := range backends() {
				checkNew(t, b, k, m)
			}
		}
	}
}

func TestNewEachTimeANewOne(t *testing.T) {
	if s := (setting{3, 2}); s.codec(t, api.Fast) == s.codec(t, api.Fast) {
		t.Fatal("New has answered the same codec twice")
	}
}

// P18.2

func TestEncodeExamples(t *testing.T) {
	for _, x := range []struct {
		s            setting
		data, parity [][]byte
	}{
		{setting{1, 1}, [][]byte{{5, 6, 7, 8}}, [][]byte{{5, 6, 7, 8}}},
		{setting{2, 1}, [][]byte{{1, 0}, {2, 1}}, [][]byte{{3, 1}}},
		{setting{2, 1}, [][]byte{{1, 2}, {3, 4}}, [][]byte{{2, 6}}},
		{setting{2, 2}, [][]byte{{1, 0}, {0, 0}}, [][]byte{{0xCB, 0xAC}, {0xCA, 0xAC}}},
		{setting{2, 2}, [][]byte{{0, 0}, {1, 0}}, [][]byte{{0xCA, 0xAC}, {0xCB, 0xAC}}},
	} {
		for _, c := range x.s.codecs(t) {
			shards := copies(x.data)
			for range x.s.m {
				shards = append(shards, make([]byte, len(x.data[0])))
			}
			if e := c.Encode(shards); e != api.OK || !alike(shards, slices.Concat(x.data, x.parity)) {
				t.Errorf("Encode, %v: %d, %v", x.s, e, shards)
			}
		}
	}
}

// The parity is that of the codeword, whatever stood there, in the same memory; nothing else is written.
func TestEncodeGivesTheCodeword(t *testing.T) {
	d := dice(2)
	for _, s := range append(small(), middling()...) {
		for _, c := range s.codecs(t) {
			for _, n := range []int{2, 4, 14, 32, 34} {
				want := d.codeword(s, n)
				was := append(copies(want[:s.k]), d.shards(s.m, n)...)
				about := stage(was)
				if e := c.Encode(about.shards); e != api.OK || !alike(about.shards, want) || !about.kept(nil, s.parity()) {
					t.Fatalf("Encode, %v, %d bytes: %d, or other bytes", s, n, e)
				}
			}
		}
	}
}

// directIsSoon: has Direct so few products here that a test of it takes no long time?
func (s setting) directIsSoon() bool { return s.k*s.m <= 1<<20 }

// Of great codes parity shards here and there, by the formula, and Verify of all of them; what Fast has made is what Direct asks for.
func TestEncodeGreatCodes(t *testing.T) {
	d := dice(3)
	for _, s := range great() {
		shards := d.shards(s.k+s.m, 4)
		data := copies(shards[:s.k])
		if e := s.codec(t, api.Fast).Encode(shards); e != api.OK || !alike(shards[:s.k], data) {
			t.Fatalf("Encode, %v: %d, or other data", s, e)
		}
		for _, j := range []int{0, s.m / 2, s.m - 1, d.next(s.m)} {
			row := s.parityRow(j)
			for at := range 2 {
				if want := sum(row, data, at); wordAt(shards[s.k+j], at) != want {
					t.Fatalf("Encode, %v: word %d of parity shard %d is %x, want %x", s, at, j, wordAt(shards[s.k+j], at), want)
				}
			}
		}
		for _, b := range backends() {
			if b == api.Direct && !s.directIsSoon() {
				continue
			}
			c, again := s.codec(t, b), append(copies(data), d.shards(s.m, 4)...)
			if e := c.Encode(again); e != api.OK || !alike(again, shards) {
				t.Errorf("Encode, %v, backend %d: %d, or other bytes", s, b, e)
			}
			checkVerify(t, c, s, shards, true)
			again[d.next(s.k+s.m)][d.next(4)] ^= byte(1 + d.next(255))
			checkVerify(t, c, s, again, false)
		}
	}
}

// Long shards, at which Fast works in more than one piece.
func TestEncodeLongShards(t *testing.T) {
	d := dice(4)
	for _, x := range []struct {
		s      setting
		length int
	}{{setting{3, 3}, 270002}, {setting{40, 120}, 8220}, {setting{2, 1}, 1048594}} {
		var made [][]byte
		for _, c := range x.s.codecs(t) {
			shards := d.shards(x.s.k+x.s.m, x.length)
			if made == nil {
				made = x.s.encoded(shards, api.Span{To: x.length})
			}
			shards = append(copies(made[:x.s.k]), shards[x.s.k:]...)
			if e := c.Encode(shards); e != api.OK || !alike(shards, made) {
				t.Errorf("Encode, %v, long shards: %d, or other bytes", x.s, e)
			}
			if ok, e := c.Verify(shards); !ok || e != api.OK {
				t.Errorf("Verify, %v, long shards: %v, %d", x.s, ok, e)
			}
			shards[x.s.k+x.s.m-1][x.length-1] ^= 1
			if ok, e := c.Verify(shards); ok || e != api.OK {
				t.Errorf("Verify, %v, the last byte of long shards turned: %v, %d", x.s, ok, e)
			}
		}
	}
}

// Every value of a data word beside fixed others.
func TestEncodeEveryWord(t *testing.T) {
	s := setting{3, 3}
	for at := range s.k {
		was := make([][]byte, s.k+s.m)
		for i := range was {
			was[i] = bytes.Repeat([]byte{byte(7 * i), byte(11 * i)}, 65536)
		}
		for x := range 65536 {
			setWord(was[at], x, uint16(x))
		}
		want := s.encoded(was, api.Span{To: 131072})
		for _, c := range s.codecs(t) {
			shards := copies(was)
			if e := c.Encode(shards); e != api.OK || !alike(shards, want) {
				t.Errorf("Encode, %v, each word of shard %d: %d, or other bytes", s, at, e)
			}
		}
	}
}

func TestEncodeSpanAtEverySpan(t *testing.T) {
	d := dice(5)
	for _, s := range append(small(), setting{10, 4}, setting{17, 9}) {
		for _, c := range s.codecs(t) {
			for _, n := range []int{2, 4, 16} {
				was := d.shards(s.k+s.m, n)
				for _, span := range spansOf(n) {
					about := stage(was)
					e := c.EncodeSpan(about.shards, span)
					if e != api.OK || !alike(about.shards, s.encoded(was, span)) || !about.kept(nil, s.parity()) {
						t.Fatalf("EncodeSpan, %v, %v of %d bytes: %d, or other bytes", s, span, n, e)
					}
				}
			}
		}
	}
}

// Spans one behind another do what Encode does.
func TestEncodeSpanBySpan(t *testing.T) {
	d := dice(6)
	for _, s := range middling() {
		want := d.codeword(s, 48)
		for _, c := range s.codecs(t) {
			shards := append(copies(want[:s.k]), d.shards(s.m, 48)...)
			for _, part := range [][2]int{{34, 48}, {0, 6}, {6, 6}, {6, 32}, {32, 34}} {
				if e := c.EncodeSpan(shards, api.Span{From: part[0], To: part[1]}); e != api.OK {
					t.Fatalf("EncodeSpan, %v, %v: %d", s, part, e)
				}
			}
			if !alike(shards, want) {
				t.Errorf("EncodeSpan, %v: the spans make another codeword", s)
			}
		}
	}
}

// P18.3

func checkVerify(t *testing.T, c *Codec, s setting, shards [][]byte, want bool) {
	t.Helper()
	about := stage(shards)
	if ok, e := c.Verify(about.shards); ok != want || e != api.OK || !about.kept(nil, nil) {
		t.Errorf("Verify, %v: %v, %d, or something is changed", s, ok, e)
	}
}

func TestVerifyOfCodewordsAndOthers(t *testing.T) {
	d := dice(7)
	for _, s := range append(small(), middling()...) {
		for _, c := range s.codecs(t) {
			shards := d.codeword(s, 12)
			checkVerify(t, c, s, shards, true)
			for range 20 {
				turned := copies(shards)
				for _, i := range d.some(1+d.next(s.m), s.k+s.m) {
					turned[i][d.next(12)] ^= byte(1 + d.next(255))
				}
				checkVerify(t, c, s, turned, false)
			}
		}
	}
}

// Each byte turned is told; so is each span that has it, and no other.
func TestVerifySpanOfEachTurnedByte(t *testing.T) {
	d := dice(8)
	for _, s := range small() {
		for _, c := range s.codecs(t) {
			shards := d.codeword(s, 8)
			for i := range shards {
				for at := range shards[i] {
					bit := byte(1) << d.next(8)
					shards[i][at] ^= bit
					if ok, e := c.Verify(shards); ok || e != api.OK {
						t.Fatalf("Verify, %v, shard %d turned at %d: %v, %d", s, i, at, ok, e)
					}
					for _, span := range spansOf(8) {
						want := at < span.From || at >= span.To
						if ok, e := c.VerifySpan(shards, span); ok != want || e != api.OK {
							t.Fatalf("VerifySpan, %v, %v, shard %d turned at %d: %v, %d", s, span, i, at, ok, e)
						}
					}
					shards[i][at] ^= bit
				}
			}
		}
	}
}

// Any contents of small codes, the right parity among them: true just where they are a codeword.
func TestVerifyOfManyContents(t *testing.T) {
	d := dice(9)
	for _, s := range []setting{{1, 1}, {2, 1}, {1, 2}, {2, 2}} {
		rows := s.parityRows()
		for _, c := range s.codecs(t) {
			right := 0
			for n := range 4000 {
				shards := d.shards(s.k+s.m, 2)
				want := true
				for j, row := range rows {
					shard := shards[s.k+j]
					word := sum(row, shards[:s.k], 0)
					if n%4 != 0 {
						word ^= uint16(d.next(2)) << d.next(16)
					}
					setWord(shard, 0, word)
					want = want && word == sum(row, shards[:s.k], 0)
				}
				if want {
					right++
				}
				if ok, e := c.Verify(shards); ok != want || e != api.OK {
					t.Fatalf("Verify, %v, %v: %v, %d", s, shards, ok, e)
				}
			}
			if right < 1000 || right > 3900 {
				t.Errorf("Verify, %v: %d of the sets were codewords", s, right)
			}
		}
	}
}
