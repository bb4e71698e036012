package frame

import (
	"bytes"
	"fmt"
	"math"
	"testing"

	"cullet/api"
)

// P25.6, and P2 of the files.

func checkSeal(t *testing.T, o api.Options, block int, stamp uint64, data []byte, want [][]byte) {
	t.Helper()
	files, fault := Seal(o, block, stamp, data)
	if fault != api.OK || !alike(files, want) {
		t.Fatalf("Seal(%+v, block %d, stamp %d) of %d bytes: %x, %d, it is to be %x", o, block, stamp, len(data), files, fault, want)
	}
}

// sealed: the files of an object, laid by the tests.
func (s setting) sealed(block int, stamp uint64, data []byte) [][]byte {
	return laidAll(s.head(len(data), block, stamp), s.codeword(data))
}

// Every backend, with workers of several kinds: short objects, blocks of all kinds.
func TestSeal(t *testing.T) {
	d := dice(12)
	for _, s := range small() {
		for size := 1; size <= 14; size++ {
			for block := s.width(); block <= 8; block += s.width() {
				data, stamp := d.bytes(size), uint64(d.next(3))<<62+uint64(d.next(99))
				want := s.sealed(block, stamp, data)
				for _, o := range s.manyOptions() {
					checkSeal(t, o, block, stamp, data, want)
				}
			}
		}
	}
}

func TestSealOfMoreShards(t *testing.T) {
	d := dice(13)
	for _, s := range middling() {
		for _, size := range []int{1, 2, s.k - 1, s.k, s.k + 1, 7*s.k + 3} {
			data := d.bytes(max(1, size))
			for _, block := range []int{s.width(), 4, 6, 1 << 20} {
				want := s.sealed(block, 5, data)
				for _, o := range s.manyOptions() {
					checkSeal(t, o, block, 5, data, want)
				}
			}
		}
	}
}

// Codewords that the document names, in files laid by hand.
func TestSealOfKnownCodewords(t *testing.T) {
	for _, c := range []struct {
		s      setting
		data   []byte
		shards [][]byte
	}{
		{setting{api.Vander, 2, 2}, []byte{1, 0}, [][]byte{{1}, {0}, {3}, {2}}},
		{setting{api.Cauchy, 2, 1}, []byte{1, 0}, [][]byte{{1}, {0}, {0x8E}}},
		{setting{api.Long, 2, 1}, []byte{1, 2, 3, 4}, [][]byte{{1, 2}, {3, 4}, {2, 6}}},
		{setting{api.Vander, 2, 1}, []byte{5, 0, 7, 1}, [][]byte{{5, 0}, {7, 1}, {1, 2}}},
		{setting{api.Vander, 2, 1}, []byte{5, 0, 7}, [][]byte{{5, 0}, {7, 0}, {1, 0}}},
		{setting{api.Long, 2, 1}, []byte{9, 8, 7}, [][]byte{{9, 8}, {7, 0}, {14, 8}}},
		{setting{api.Long, 2, 1}, []byte{9}, [][]byte{{9, 0}, {0, 0}, {9, 0}}},
		{setting{api.Cauchy, 1, 3}, []byte{0, 0, 0}, [][]byte{{0, 0, 0}, {0, 0, 0}, {0, 0, 0}, {0, 0, 0}}},
	} {
		for _, o := range c.s.manyOptions() {
			for _, block := range []int{2, 4, 10} {
				checkSeal(t, o, block, 77, c.data, laidAll(c.s.head(len(c.data), block, 77), c.shards))
			}
		}
	}
}

// The document's ninth example.
func TestSealOfTheExample(t *testing.T) {
	files, fault := Seal(setting{api.Vander, 2, 1}.options(), 1, 9, []byte{1, 2, 3})
	if fault != api.OK || len(files) != 3 {
		t.Fatalf("Seal: %d files, %d", len(files), fault)
	}
	for i, file := range files {
		if len(file) != 58 {
			t.Errorf("the file %d has %d bytes", i, len(file))
		}
	}
	// The first has lost its last block, the second its first one.
	hurt := [][]byte{files[0][:53], changed(files[1], 48, 1), files[2]}
	for what, some := range map[string][][]byte{
		"the first two": files[:2], "the last two": files[1:], "the outer ones": {files[0], files[2]}, "hurt ones": hurt,
	} {
		if data, fault := Open(some); fault != api.OK || !bytes.Equal(data, []byte{1, 2, 3}) {
			t.Errorf("%s: %v, %d", what, data, fault)
		}
	}
}

// sealError: each error a question of its own, in the chapter's order.
func sealError(o api.Options, block, size int) api.Errno {
	within := func(n, least, most int) bool { return n >= least && n <= most }
	isSmall := o.Family == api.Vander || o.Family == api.Cauchy
	switch {
	case !isSmall && o.Family != api.Long:
		return api.ErrFamily
	case isSmall && !within(int(o.Backend), 0, 2), !isSmall && !within(int(o.Backend), 3, 4):
		return api.ErrBackend
	case !isValid(o.Family, o.Data, o.Parity):
		return api.ErrParams
	case !within(o.Workers, 1, 64):
		return api.ErrWorkers
	case !within(o.Stripe, 1, 1<<24):
		return api.ErrStripe
	case !within(o.Cache, 1, 1024):
		return api.ErrRange
	case !isBlockFor(o.Family, block):
		return api.ErrBlock
	case size == 0:
		return api.ErrNoData
	}
	length := lengthFor(o.Family, o.Data, size)
	if (o.Data+o.Parity)*length > 1<<26 || (length+block-1)/block > 65536 {
		return api.ErrSize
	}
	return api.OK
}

func checkSealError(t *testing.T, o api.Options, block int, data []byte) api.Errno {
	t.Helper()
	want := sealError(o, block, len(data))
	files, fault := Seal(o, block, 1, data)
	if fault != want || fault != api.OK && len(files) > 0 || fault == api.OK && len(files) != o.Data+o.Parity {
		t.Fatalf("Seal(%+v, block %d) of %d bytes: %d files, %d, it is to be %d", o, block, len(data), len(files), fault, want)
	}
	return want
}

// All combinations of what is right and wrong, so that the first error is told.
func TestErrorsOfSeal(t *testing.T) {
	told := map[api.Errno]int{}
	for _, f := range []api.Family{api.Vander, api.Cauchy, api.Long, -1, 3} {
		for _, b := range []api.Backend{-1, api.Table, api.Sliced, api.Direct, api.Fast, 5} {
			for _, pair := range [][2]int{{2, 1}, {0, 1}, {255, 2}} {
				for bits := range 8 {
					o := api.Options{Family: f, Backend: b, Data: pair[0], Parity: pair[1], Workers: 1 - bits&1, Stripe: 1 - bits>>1&1, Cache: 1 - bits>>2}
					for _, block := range []int{0, 1, 2, 3, 1 << 20, 1<<20 + 1} {
						for _, size := range []int{0, 5, 262150} {
							told[checkSealError(t, o, block, make([]byte, size))]++
						}
					}
				}
			}
		}
	}
	for _, fault := range []api.Errno{api.OK, api.ErrFamily, api.ErrBackend, api.ErrParams, api.ErrWorkers, api.ErrStripe, api.ErrRange, api.ErrBlock, api.ErrNoData, api.ErrSize} {
		if told[fault] < 9 {
			t.Errorf("the answer %d was tried %d times", fault, told[fault])
		}
	}
}

// Each limit from both sides, and numbers far off.
func TestLimitsOfSeal(t *testing.T) {
	far := []int{math.MinInt, -1 << 40, -2, -1, 0, 1, 2, 3, 1<<20 - 1, 1 << 20, 1<<20 + 1, 1<<20 + 2, 1 << 32, 1<<32 + 1, 1 << 60, math.MaxInt - 1, math.MaxInt}
	for _, s := range small() {
		for _, n := range far {
			checkSealError(t, s.options(), n, []byte{1, 2, 3})
			checkSealError(t, s.options(), n, nil)
			for _, at := range []func(o *api.Options) *int{
				func(o *api.Options) *int { return &o.Data },
				func(o *api.Options) *int { return &o.Parity },
				func(o *api.Options) *int { return &o.Workers },
				func(o *api.Options) *int { return &o.Stripe },
				func(o *api.Options) *int { return &o.Cache },
				func(o *api.Options) *int { return (*int)(&o.Family) },
				func(o *api.Options) *int { return (*int)(&o.Backend) },
			} {
				o := s.options()
				*at(&o) = n
				checkSealError(t, o, 2, []byte{1, 2, 3})
				checkSealError(t, o, 0, nil)
			}
		}
	}
}

// The number of blocks and the bytes of all shards.
func TestGreatestSeals(t *testing.T) {
	for _, c := range []struct {
		s           setting
		block, size int
		want        api.Errno
	}{
		{setting{api.Vander, 1, 1}, 1, 65536, api.OK},
		{setting{api.Vander, 1, 1}, 1, 65537, api.ErrSize},
		{setting{api.Vander, 2, 1}, 1, 131072, api.OK},
		{setting{api.Vander, 2, 1}, 1, 131073, api.ErrSize},
		{setting{api.Cauchy, 1, 2}, 3, 3 * 65536, api.OK},
		{setting{api.Cauchy, 1, 2}, 3, 3*65536 + 1, api.ErrSize},
		{setting{api.Long, 1, 1}, 2, 131072, api.OK},
		{setting{api.Long, 1, 1}, 2, 131073, api.ErrSize},
		{setting{api.Vander, 1, 1}, 1 << 20, 1 << 25, api.OK},
		{setting{api.Vander, 1, 1}, 1 << 20, 1<<25 + 1, api.ErrSize},
		{setting{api.Cauchy, 2, 254}, 4, 1 << 19, api.OK},
		{setting{api.Cauchy, 2, 254}, 5, 1<<19 + 1, api.ErrSize},
		{setting{api.Long, 1, 1}, 512, 1<<25 + 1, api.ErrSize},
		{setting{api.Long, 3, 2}, 1 << 20, (1 << 26) / 5 / 2 * 2 * 3, api.OK},
		{setting{api.Long, 3, 2}, 1 << 20, (1<<26)/5/2*2*3 + 1, api.ErrSize},
		{setting{api.Long, 32768, 32768}, 2, 1<<25 + 1, api.ErrSize},
	} {
		o := c.s.options()
		if c.s.f == api.Long {
			o.Backend = api.Fast
		}
		if got := checkSealError(t, o, c.block, make([]byte, c.size)); got != c.want {
			t.Errorf("%v, block %d, %d bytes: the tests' own rule says %d, it is to be %d", c.s, c.block, c.size, got, c.want)
		}
	}
}

// Stamps of all kinds, each in its files' heads.
func TestStampsOfSeal(t *testing.T) {
	s := setting{api.Long, 2, 2}
	for _, stamp := range []uint64{0, 1, 255, 1 << 40, math.MaxInt64, 1 << 63, math.MaxUint64} {
		checkSeal(t, s.options(), 2, stamp, []byte{1, 2, 3}, s.sealed(2, stamp, []byte{1, 2, 3}))
		files, _ := Seal(s.options(), 2, stamp, []byte{1, 2, 3})
		for i, file := range files {
			want := s.head(3, 2, stamp)
			want.Index = i
			if h, fault := ReadHead(file); h != want || fault != api.OK {
				t.Errorf("%s: %+v, %d", fmt.Sprint(stamp, i), h, fault)
			}
		}
	}
}
