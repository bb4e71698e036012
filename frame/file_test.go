package frame

import (
	"bytes"
	"fmt"
	"slices"
	"testing"

	"cullet/api"
)

// P25.3 and P25.5.

// heads: of short shards, with blocks of all kinds.
func heads() []api.Head {
	var list []api.Head
	for _, s := range small() {
		for size := 1; size <= 9; size++ {
			for block := s.width(); block <= 6; block += s.width() {
				h := s.head(size, block, uint64(size)<<61+uint64(block))
				h.Index = size % s.count()
				list = append(list, h)
			}
		}
	}
	return list
}

// A file is what the chapter lays, and is read again.
func TestPack(t *testing.T) {
	d := dice(5)
	for _, h := range heads() {
		shard := d.bytes(h.Length)
		file, fault := Pack(h, shard)
		if fault != api.OK || !bytes.Equal(file, laid(h, shard)) {
			t.Fatalf("Pack of %+v, %v: % x, %d, it is to be % x", h, shard, file, fault, laid(h, shard))
		}
		if want := 48 + h.Length + 4*blockCount(h); len(file) != want {
			t.Fatalf("Pack of %+v: %d bytes, it is to be %d", h, len(file), want)
		}
		got, back, bad, fault := Read(file)
		if got != h || !bytes.Equal(back, shard) || len(bad) > 0 || fault != api.OK {
			t.Fatalf("Read of %+v, %v: %+v, %v, %v, %d", h, shard, got, back, bad, fault)
		}
	}
}

// ErrHead is ahead of ErrLens.
func TestErrorsOfPack(t *testing.T) {
	wrong := plain
	wrong.Block = 0
	for n := range 6 {
		shard := make([]byte, n)
		want := api.ErrLens
		if n == plain.Length {
			want = api.OK
		}
		if file, fault := Pack(plain, shard); fault != want || (len(file) > 0) != (want == api.OK) {
			t.Errorf("Pack with %d bytes: %v, %d, it is to be %d", n, file, fault, want)
		}
		if file, fault := Pack(wrong, shard); fault != api.ErrHead || len(file) > 0 {
			t.Errorf("Pack of a wrong head with %d bytes: %v, %d", n, file, fault)
		}
	}
	if file, fault := Pack(plain, nil); fault != api.ErrLens || len(file) > 0 {
		t.Errorf("Pack of nothing: %v, %d", file, fault)
	}
	for what, list := range turns() {
		for _, h := range list {
			if isGood(h) {
				continue
			}
			if file, fault := Pack(h, make([]byte, max(0, min(h.Length, 100)))); fault != api.ErrHead || len(file) > 0 {
				t.Fatalf("%s: Pack of %+v: %d bytes, %d", what, h, len(file), fault)
			}
		}
	}
}

// Every beginning of a file, and the file with bytes behind it.
func TestReadOfBeginnings(t *testing.T) {
	d := dice(6)
	for _, h := range heads() {
		file := laid(h, d.bytes(h.Length))
		for n := range len(file) + 1 {
			checkRead(t, fmt.Sprintf("%+v, the first %d bytes", h, n), file[:n:n])
			// What lies behind a list's length is no part of it.
			checkRead(t, fmt.Sprintf("%+v, the first %d bytes of the file", h, n), file[:n])
		}
		for _, n := range []int{1, 2, 4, 5, 100} {
			if got, shard, bad, fault := Read(append(bytes.Clone(file), make([]byte, n)...)); fault != api.ErrCut || got != (api.Head{}) || len(shard) > 0 || len(bad) > 0 {
				t.Fatalf("%+v, %d bytes more: %v, %v, %v, %d", h, n, got, shard, bad, fault)
			}
		}
	}
}

// The chapter's examples.
func TestReadOfTheExample(t *testing.T) {
	file, fault := Pack(plain, []byte{7, 8})
	if fault != api.OK || len(file) != 58 || file[48] != 7 || file[53] != 8 {
		t.Fatalf("Pack: % x, %d", file, fault)
	}
	h, shard, bad, fault := Read(file[:57])
	if h != plain || !bytes.Equal(shard, []byte{7, 0}) || !slices.Equal(bad, []int{1}) || fault != api.OK {
		t.Errorf("Read without the last byte: %v, %v, %v, %d", h, shard, bad, fault)
	}
}

// Each byte behind the head, changed in several ways: its block alone is bad.
func TestReadOfChangedBlocks(t *testing.T) {
	d := dice(7)
	for _, h := range heads() {
		shard := d.bytes(h.Length)
		file := laid(h, shard)
		for b := range blockCount(h) {
			from, sum, end := placesOf(h, b)
			for at := from; at < end; at++ {
				for _, mask := range []byte{1, 0x80, 255, byte(1 + d.next(255))} {
					want := bytes.Clone(shard)
					clear(blockOf(h, want, b))
					got, read, bad, fault := Read(changed(file, at, mask))
					if got != h || !bytes.Equal(read, want) || !slices.Equal(bad, []int{b}) || fault != api.OK {
						t.Fatalf("%+v, byte %d (block %d, sum at %d): %v, %v, %v, %d", h, at, b, sum, got, read, bad, fault)
					}
				}
			}
		}
	}
}

// Thrown damage: the numbers of the bad blocks rise.
func TestReadOfThrownDamage(t *testing.T) {
	d := dice(8)
	most := 0
	for range 4000 {
		s := small()[d.next(15)]
		h := s.head(1+d.next(60), s.width()*(1+d.next(4)), uint64(d.next(5)))
		file := laid(h, d.bytes(h.Length))
		for range d.next(9) {
			file[48+d.next(len(file)-48)] ^= byte(d.next(256))
		}
		for range d.oneOf(0, 0, 0, 1) {
			file = file[:d.next(len(file)+1)]
		}
		most = max(most, len(checkRead(t, fmt.Sprintf("%+v", h), file).bad))
	}
	if most < 5 {
		t.Errorf("no more than %d blocks of a file were bad", most)
	}
}

// A block that stands in another place, in the file of another shard, or under another head doesn't fit.
func TestBlocksElsewhere(t *testing.T) {
	shard := bytes.Repeat([]byte{5, 6}, 4)
	h := setting{api.Vander, 2, 2}.head(16, 2, 1)
	file := laid(h, shard)
	for _, turn := range []func(h *api.Head){
		func(h *api.Head) { h.Index = 1 }, func(h *api.Head) { h.Stamp = 2 }, func(h *api.Head) { h.Stamp = 1 << 63 },
		func(h *api.Head) { h.Family = api.Cauchy }, func(h *api.Head) { h.Parity = 1 }, func(h *api.Head) { h.Size = 15 },
		func(h *api.Head) { h.Data, h.Size = 1, 8 },
	} {
		other := h
		turn(&other)
		mixed := append(laid(other, shard)[:48:48], file[48:]...)
		got, read, bad, fault := Read(mixed)
		if got != other || !bytes.Equal(read, make([]byte, 8)) || !slices.Equal(bad, []int{0, 1, 2, 3}) || fault != api.OK {
			t.Errorf("the blocks of %+v under %+v: %v, %v, %v, %d", h, other, got, read, bad, fault)
		}
	}
	for a := range 4 {
		for b := range a {
			// All blocks have the same bytes, so that their sums alone tell them apart.
			mixed := bytes.Clone(file)
			fromA, _, endA := placesOf(h, a)
			fromB, _, endB := placesOf(h, b)
			copy(mixed[fromA:endA], file[fromB:endB])
			copy(mixed[fromB:endB], file[fromA:endA])
			if _, _, bad, fault := Read(mixed); !slices.Equal(bad, []int{b, a}) || fault != api.OK {
				t.Errorf("the blocks %d and %d: %v, %d", a, b, bad, fault)
			}
		}
	}
}

// Numbers of blocks and lengths at the limits.
func TestGreatFiles(t *testing.T) {
	d := dice(9)
	for _, c := range []struct {
		s           setting
		size, block int
	}{
		{setting{api.Vander, 1, 1}, 65536, 1},
		{setting{api.Long, 2, 1}, 262144, 2},
		{setting{api.Long, 1, 1}, 131071, 2},
		{setting{api.Cauchy, 1, 3}, 3 << 20, 1 << 20},
		{setting{api.Cauchy, 1, 3}, 3<<20 + 1, 1 << 20},
		{setting{api.Vander, 1, 1}, 1 << 20, 1<<20 - 1},
	} {
		h := c.s.head(c.size, c.block, 3)
		shard := d.bytes(h.Length)
		file, fault := Pack(h, shard)
		if fault != api.OK {
			t.Fatalf("Pack of %+v: %d", h, fault)
		}
		last := blockCount(h) - 1
		for _, b := range []int{0, last / 2, last} {
			from, sum, end := placesOf(h, b)
			if want := uint64(sumOf(file[:44], low(uint64(b), 4), shard[b*h.Block:b*h.Block+sum-from])); fromLow(file[sum:end]) != want {
				t.Fatalf("Pack of %+v: the sum of block %d is %#x, it is to be %#x", h, b, file[sum:end], want)
			}
			want := bytes.Clone(shard)
			clear(blockOf(h, want, b))
			got, read, bad, fault := Read(changed(file, sum-1, 1))
			if got != h || !bytes.Equal(read, want) || !slices.Equal(bad, []int{b}) || fault != api.OK {
				t.Fatalf("Read of %+v, block %d is bad: %v, %v, %d", h, b, got, bad, fault)
			}
		}
		if _, read, bad, fault := Read(file[:48]); !bytes.Equal(read, make([]byte, h.Length)) || len(bad) != last+1 || fault != api.OK {
			t.Fatalf("Read of the head of %+v: %d bad, %d", h, len(bad), fault)
		}
	}
}
