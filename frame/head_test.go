package frame

import (
	"fmt"
	"math"
	"testing"

	"cullet/api"
)

// P25.2 and P25.4.

// plain: the chapter's example.
var plain = api.Head{Family: api.Vander, Data: 2, Parity: 1, Index: 0, Size: 3, Length: 2, Block: 1, Stamp: 9}

// turns: numbers at the limits and beside them, for each field of a head.
func turns() map[string][]api.Head {
	numbers := []int{math.MinInt, -1 << 40, -1, 0, 1, 2, 3, 4, 5, 254, 255, 256, 65535, 65536, 65537, 1<<20 - 1, 1 << 20, 1<<20 + 1, 1<<20 + 2, 1 << 25, 1<<26 - 1, 1 << 26, 1<<26 + 1, 1 << 40, 1<<40 + 1, 1 << 62, math.MaxInt - 1, math.MaxInt}
	all := map[string][]api.Head{}
	for _, s := range append(small(), middling()...) {
		base := s.head(10, 2, 7)
		for _, n := range numbers {
			for field, at := range []func(*api.Head) *int{
				func(h *api.Head) *int { return (*int)(&h.Family) },
				func(h *api.Head) *int { return &h.Data },
				func(h *api.Head) *int { return &h.Parity },
				func(h *api.Head) *int { return &h.Index },
				func(h *api.Head) *int { return &h.Size },
				func(h *api.Head) *int { return &h.Length },
				func(h *api.Head) *int { return &h.Block },
			} {
				h := base
				*at(&h) = n
				all["one turn"] = append(all["one turn"], h)
				if field == 1 || field == 4 {
					// The length that goes with it, so that what else is wrong is told.
					if h.Data > 0 && h.Data <= 1<<20 && h.Size > 0 && h.Size <= 1<<41 {
						h.Length = lengthFor(h.Family, h.Data, h.Size)
						all["with its length"] = append(all["with its length"], h)
					}
				}
			}
		}
	}
	return all
}

// Each field by itself, far off and near by.
func TestCheckHead(t *testing.T) {
	good, wrong := 0, 0
	for what, heads := range turns() {
		for _, h := range heads {
			want := api.OK
			if !isGood(h) {
				want = api.ErrHead
				wrong++
			} else {
				good++
			}
			if fault := CheckHead(h); fault != want {
				t.Fatalf("%s: CheckHead(%+v): %d, it is to be %d", what, h, fault, want)
			}
		}
	}
	if good < 100 || wrong < 1000 {
		t.Errorf("%d good heads and %d others were tried", good, wrong)
	}
}

// Thrown heads, most of which are wrong in a thing or two.
func TestCheckThrownHeads(t *testing.T) {
	d := dice(3)
	good := 0
	for range 40000 {
		s := setting{api.Family(d.next(3)), d.oneOf(1, 2, 3, 7, 200, 255, 1000, 65535), d.oneOf(1, 2, 3, 55, 56, 57, 300)}
		size := 1 + d.next(d.oneOf(5, 300, 1<<17, 1<<26))
		h := s.head(size, 1+d.next(d.oneOf(4, 50, 1<<21)), uint64(d.next(9)))
		h.Index = d.next(s.count() + 2)
		h.Length += d.oneOf(0, 0, 0, 0, 0, 1, -1)
		want := api.ErrHead
		if isGood(h) {
			want = api.OK
			good++
		}
		if fault := CheckHead(h); fault != want {
			t.Fatalf("CheckHead(%+v): %d, it is to be %d", h, fault, want)
		}
		if want == api.OK {
			checkReadHead(t, fmt.Sprint(h), saying(h).bytes())
		}
	}
	if good < 5000 {
		t.Errorf("%d good heads were tried", good)
	}
}

// The limits, each from both sides.
func TestLimitsOfHeads(t *testing.T) {
	for _, c := range []struct {
		what string
		h    api.Head
		want api.Errno
	}{
		{"the example", plain, api.OK},
		{"any stamp", api.Head{Data: 2, Parity: 1, Size: 3, Length: 2, Block: 1, Stamp: math.MaxUint64}, api.OK},
		{"no stamp", api.Head{Data: 2, Parity: 1, Size: 3, Length: 2, Block: 1}, api.OK},
		{"the last shard", api.Head{Data: 2, Parity: 1, Index: 2, Size: 3, Length: 2, Block: 1}, api.OK},
		{"a shard behind the last", api.Head{Data: 2, Parity: 1, Index: 3, Size: 3, Length: 2, Block: 1}, api.ErrHead},
		{"a block beyond the shard", api.Head{Data: 2, Parity: 1, Size: 3, Length: 2, Block: 3}, api.OK},
		{"the greatest block", api.Head{Data: 2, Parity: 1, Size: 3, Length: 2, Block: 1 << 20}, api.OK},
		{"a greater block", api.Head{Data: 2, Parity: 1, Size: 3, Length: 2, Block: 1<<20 + 1}, api.ErrHead},
		{"an odd block", api.Head{Family: api.Cauchy, Data: 2, Parity: 1, Size: 6, Length: 3, Block: 3}, api.OK},
		{"an odd block of Long", api.Head{Family: api.Long, Data: 2, Parity: 1, Size: 8, Length: 4, Block: 3}, api.ErrHead},
		{"an even block of Long", api.Head{Family: api.Long, Data: 2, Parity: 1, Size: 8, Length: 4, Block: 4}, api.OK},
		{"an odd length of Long", api.Head{Family: api.Long, Data: 2, Parity: 1, Size: 6, Length: 3, Block: 2}, api.ErrHead},
		{"65536 blocks", api.Head{Data: 1, Parity: 1, Size: 65536, Length: 65536, Block: 1}, api.OK},
		{"65537 blocks", api.Head{Data: 1, Parity: 1, Size: 65537, Length: 65537, Block: 1}, api.ErrHead},
		{"65536 blocks, the last one shorter", api.Head{Data: 1, Parity: 1, Size: 131071, Length: 131071, Block: 2}, api.OK},
		{"65537 blocks, the last one shorter", api.Head{Data: 1, Parity: 1, Size: 131073, Length: 131073, Block: 2}, api.ErrHead},
		{"2^26 bytes", api.Head{Data: 3, Parity: 1, Size: 3 << 24, Length: 1 << 24, Block: 1 << 20}, api.OK},
		{"more than 2^26 bytes", api.Head{Data: 3, Parity: 1, Size: 3<<24 + 1, Length: 1<<24 + 1, Block: 1 << 20}, api.ErrHead},
		{"256 shards", api.Head{Data: 255, Parity: 1, Index: 255, Size: 1, Length: 1, Block: 1}, api.OK},
		{"257 shards", api.Head{Data: 255, Parity: 2, Size: 1, Length: 1, Block: 1}, api.ErrHead},
		{"65536 shards of Long", api.Head{Family: api.Long, Data: 32768, Parity: 32768, Index: 65535, Size: 1, Length: 2, Block: 2}, api.OK},
		{"65536 shards of 1024 bytes", api.Head{Family: api.Long, Data: 32768, Parity: 32768, Size: 1 << 25, Length: 1024, Block: 2}, api.OK},
		{"65536 shards of 1026 bytes", api.Head{Family: api.Long, Data: 32768, Parity: 32768, Size: 1<<25 + 1, Length: 1026, Block: 2}, api.ErrHead},
		{"too much parity of Long", api.Head{Family: api.Long, Data: 40000, Parity: 20000, Size: 1, Length: 2, Block: 2}, api.ErrHead},
		{"2^40 bytes", api.Head{Data: 255, Parity: 1, Size: 1 << 40, Length: 4311810306, Block: 1 << 20}, api.ErrHead},
		{"nothing", api.Head{}, api.ErrHead},
	} {
		if fault := CheckHead(c.h); fault != c.want {
			t.Errorf("%s: CheckHead: %d, it is to be %d", c.what, fault, c.want)
		}
		shard := make([]byte, max(0, min(c.h.Length, 1<<27)))
		if _, fault := Pack(c.h, shard); fault != c.want {
			t.Errorf("%s: Pack: %d, it is to be %d", c.what, fault, c.want)
		}
		checkReadHead(t, c.what, saying(c.h).bytes())
	}
}

// The bytes of a head, one by one as the chapter's table has them.
func TestBytesOfAHead(t *testing.T) {
	h := api.Head{Family: api.Long, Data: 0x0102, Parity: 0x0203, Index: 0x0304, Size: 0x0105 * 0x0102, Length: 0x0106, Block: 0x010204, Stamp: 0x1122334455667788}
	file, fault := Pack(h, make([]byte, h.Length))
	want := []byte{
		0x43, 0x55, 0x4C, 0x4C, 1, 2, 0x02, 0x01, 0x03, 0x02, 0x04, 0x03, 0x04, 0x02, 0x01, 0x00,
		0x0A, 0x07, 0x01, 0, 0, 0, 0, 0, 0x06, 0x01, 0, 0, 0, 0, 0, 0,
		0x88, 0x77, 0x66, 0x55, 0x44, 0x33, 0x22, 0x11, 0, 0, 0, 0,
	}
	if fault != api.OK || string(file[:44]) != string(want) {
		t.Errorf("Pack: % x, %d, it is to begin with % x", file[:min(44, len(file))], fault, want)
	}
	if got, fault := ReadHead(file); got != h || fault != api.OK {
		t.Errorf("ReadHead: %+v, %d", got, fault)
	}
}

// No more than the first 48 bytes are looked at, and no fewer are enough.
func TestReadHeadOfBeginnings(t *testing.T) {
	d := dice(4)
	for _, s := range append(small(), middling()...) {
		h := s.head(40, 2, 1<<60)
		h.Index = s.count() - 1
		head := saying(h).bytes()
		for n := range 48 {
			if got, fault := ReadHead(head[:n]); fault != api.ErrCut || got != (api.Head{}) {
				t.Fatalf("%v, ReadHead of %d bytes: %v, %d", s, n, got, fault)
			}
		}
		for _, behind := range [][]byte{nil, {0}, d.bytes(9), d.bytes(500)} {
			if got, fault := ReadHead(append(head[:48:48], behind...)); fault != api.OK || got != h {
				t.Fatalf("%v, ReadHead with %d bytes behind: %v, %d", s, len(behind), got, fault)
			}
		}
	}
	for _, none := range [][]byte{nil, {}} {
		checkReadHead(t, "nothing", none)
	}
}

// Every byte of a head, changed in every way.
func TestChangedHeads(t *testing.T) {
	for _, s := range []setting{{api.Vander, 2, 1}, {api.Long, 3, 2}} {
		head := saying(s.head(7, 2, 99)).bytes()
		for at := range head {
			for mask := 1; mask < 256; mask++ {
				file := changed(head, at, byte(mask))
				want := api.ErrSum
				if at < 5 {
					want = api.ErrMagic
				}
				if h, fault := ReadHead(file); fault != want || h != (api.Head{}) {
					t.Fatalf("%v, byte %d changed by %d: %v, %d, it is to be %d", s, at, mask, h, fault, want)
				}
			}
		}
	}
}

// Heads with a right sum that say what can't be, and heads in which several things are wrong: the first one is told.
func TestForgedHeads(t *testing.T) {
	numbers := []uint64{0, 1, 2, 3, 4, 255, 256, 257, 65535, 1 << 20, 1<<20 + 1, 1 << 31, 1<<32 - 1, 1 << 40, 1<<40 + 1, 1<<63 - 1, 1 << 63, 1<<63 + 1, 1<<63 + 2, 1<<63 + 3, 1<<64 - 2, 1<<64 - 1}
	for _, s := range small() {
		base := saying(s.head(3, 2, 5))
		for _, n := range numbers {
			for field, at := range []func(*said) *uint64{
				func(s *said) *uint64 { return &s.family },
				func(s *said) *uint64 { return &s.data },
				func(s *said) *uint64 { return &s.parity },
				func(s *said) *uint64 { return &s.index },
				func(s *said) *uint64 { return &s.block },
				func(s *said) *uint64 { return &s.size },
				func(s *said) *uint64 { return &s.length },
				func(s *said) *uint64 { return &s.stamp },
				func(s *said) *uint64 { return &s.zeros },
			} {
				forged := base
				*at(&forged) = n
				what := fmt.Sprintf("%v, field %d is %d", s, field, n)
				checkRead(t, what, forged.bytes())
				forged.by = 1 << 9
				checkRead(t, what+", a wrong sum", forged.bytes())
				forged.magic = "CULL\x00"
				checkRead(t, what+", a wrong sum, another beginning", forged.bytes())
				forged.by = 0
				checkRead(t, what+", another beginning", forged.bytes())
				checkRead(t, what+", cut", forged.bytes()[:47])
			}
		}
		for at := range 32 {
			forged := base
			forged.zeros = 1 << at
			if h, fault := ReadHead(forged.bytes()); fault != api.ErrHead || h != (api.Head{}) {
				t.Fatalf("%v, the zeros are %#x: %v, %d", s, forged.zeros, h, fault)
			}
		}
	}
}

// Beginnings that are near the right one.
func TestOtherMagic(t *testing.T) {
	for _, magic := range []string{"CULL\x02", "CULL\x00", "cull\x01", "\x01LLUC", "CUL\x01L", "\x00\x00\x00\x00\x00"} {
		s := saying(plain)
		s.magic = magic
		if h, fault := ReadHead(s.bytes()); fault != api.ErrMagic || h != (api.Head{}) {
			t.Errorf("%q: %v, %d", magic, h, fault)
		}
	}
}
