package frame

import (
	"bytes"
	"fmt"
	"slices"
	"testing"

	"cullet/api"
)

// P25.8, P25.9 and P25.10.

// damage: what became of the files of an object that was sealed.
type damage struct {
	s     setting
	head  api.Head
	data  []byte
	whole [][]byte // the files as they were
	files [][]byte // by their shards; nil where one is left out
	bad   [][]bool // for each block number and each shard: is that block not to be had?
}

func (s setting) undamaged(data []byte, block int, stamp uint64) *damage {
	g := &damage{s: s, head: s.head(len(data), block, stamp), data: data}
	g.whole = s.sealed(block, stamp, data)
	g.files = copies(g.whole)
	for range blockCount(g.head) {
		g.bad = append(g.bad, make([]bool, s.count()))
	}
	return g
}

// drop leaves a file out.
func (g *damage) drop(shard int) { g.loseAll(shard); g.files[shard] = nil }

// spoilHead changes a byte of the head: so the file isn't one any more.
func (g *damage) spoilHead(shard, at int, mask byte) {
	g.loseAll(shard)
	g.files[shard][at] ^= mask
}

func (g *damage) loseAll(shard int) {
	for b := range g.bad {
		g.bad[b][shard] = true
	}
}

// spoilBlock changes the byte at that place of the block and its sum.
func (g *damage) spoilBlock(shard, b, at int, mask byte) {
	from, _, end := g.places(b)
	g.files[shard][from+at%(end-from)] ^= mask
	g.bad[b][shard] = true
}

// cut: the file's first bytes alone are left.
func (g *damage) cut(shard, length int) {
	g.files[shard] = g.files[shard][:length]
	for b := range g.bad {
		_, _, end := g.places(b)
		if length < end {
			g.bad[b][shard] = true
		}
	}
}

// places is placesOf without making a shard.
func (g *damage) places(b int) (from, sum, end int) {
	from = 48 + b*(g.head.Block+4)
	sum = from + min(g.head.Block, g.head.Length-b*g.head.Block)
	return from, sum, sum + 4
}

// left: the files that there are.
func (g *damage) left() [][]byte {
	return slices.DeleteFunc(slices.Clone(g.files), func(file []byte) bool { return file == nil })
}

// want is P25.10, with P25.9's list of shards. For lists of which one file at the least is whole in its head.
func (g *damage) want() opened {
	hurt := make([]bool, g.s.count())
	for _, bad := range g.bad {
		lost := 0
		for i, is := range bad {
			if is {
				lost++
				hurt[i] = true
			}
		}
		if lost > g.s.m {
			return opened{fault: api.ErrTooFew}
		}
	}
	o := opened{data: g.data, fresh: g.whole}
	for i, is := range hurt {
		if is {
			o.bad = append(o.bad, i)
		}
	}
	return o
}

// Every choice of the files of short objects.
func TestOpenOfEveryChoice(t *testing.T) {
	d := dice(14)
	for _, s := range small() {
		for _, size := range []int{1, 2, 3, 5, 8, 13} {
			for _, block := range []int{2, 4, 1 << 20} {
				data := d.bytes(size)
				countLists(s.count(), 2, func(list []int) {
					g := s.undamaged(data, block, 3)
					for i, gone := range list {
						if gone == 1 {
							g.drop(i)
						}
					}
					want := g.want()
					if len(g.left()) == 0 {
						want = opened{fault: api.ErrGroup}
					}
					what := fmt.Sprintf("%v, %d bytes, block %d, without %v", s, size, block, list)
					checkOpen(t, what, g.left(), want)
					slices.Reverse(g.files)
					checkOpen(t, what+", backwards", g.left(), want)
				})
			}
		}
	}
}

// Every choice of bad blocks.
func TestOpenOfEveryBadBlock(t *testing.T) {
	d := dice(15)
	for _, c := range []struct {
		s    setting
		size int
	}{
		{setting{api.Vander, 2, 1}, 10}, {setting{api.Cauchy, 2, 1}, 11}, {setting{api.Long, 2, 1}, 11},
		{setting{api.Vander, 2, 2}, 12}, {setting{api.Cauchy, 1, 2}, 6}, {setting{api.Long, 1, 2}, 6}, {setting{api.Vander, 1, 1}, 7},
		{setting{api.Cauchy, 3, 1}, 18}, {setting{api.Long, 2, 2}, 8},
	} {
		data := d.bytes(c.size)
		blocks := len(c.s.undamaged(data, 2, 8).bad)
		tooFew := 0
		countLists(c.s.count()*blocks, 2, func(list []int) {
			g := c.s.undamaged(data, 2, 8)
			for at, bad := range list {
				if bad == 1 {
					g.spoilBlock(at%c.s.count(), at/c.s.count(), d.next(6), byte(1+d.next(255)))
				}
			}
			want := g.want()
			if want.fault == api.ErrTooFew {
				tooFew++
			}
			checkOpen(t, fmt.Sprintf("%v, bad blocks %v", c.s, list), g.files, want)
		})
		if tooFew == 0 {
			t.Errorf("%v: there were always enough", c.s)
		}
	}
}

// spoil does some of all that P25.10 names; at most so many shards are hurt in a block's place mostly.
func (g *damage) spoil(d *dice) {
	for shard := range g.files {
		switch d.next(12) {
		case 0:
			g.drop(shard)
		case 1:
			g.spoilHead(shard, d.next(48), byte(1+d.next(255)))
		case 2:
			g.cut(shard, d.next(len(g.files[shard])+1))
		}
	}
	for range d.oneOf(0, 1, len(g.bad), 3*len(g.bad)) {
		shard, b := d.next(g.s.count()), d.next(len(g.bad))
		// In each block one byte at most is changed, and not behind the file's end.
		if !g.bad[b][shard] {
			g.spoilBlock(shard, b, d.next(g.head.Block+4), byte(1+d.next(255)))
		}
	}
}

// anyHead: is there a file whose head is whole?
func (g *damage) anyHead() bool {
	return slices.ContainsFunc(g.files, func(file []byte) bool {
		_, fault := headIn(file)
		return fault == api.OK
	})
}

// Thrown damage of all kinds, in any order: P25.10, and ErrTooFew where it doesn't say that the data come back.
func TestWhatIsLeftOpens(t *testing.T) {
	d := dice(16)
	tried := map[api.Errno]int{}
	for _, s := range slices.Concat(small(), middling(), each([][2]int{{5, 4}, {6, 6}, {2, 8}}, api.Vander, api.Cauchy, api.Long)) {
		for range 60 {
			data := d.bytes(1 + d.next(d.oneOf(9, 40*s.k)))
			g := s.undamaged(data, s.width()*(1+d.next(12)), uint64(d.next(3)))
			g.spoil(&d)
			want := g.want()
			if !g.anyHead() {
				want = opened{fault: api.ErrGroup}
			}
			tried[want.fault]++
			files := g.left()
			d.shuffle(files)
			checkOpen(t, fmt.Sprintf("%v, %+v, bad blocks %v", s, g.head, g.bad), files, want)
		}
	}
	if tried[api.OK] < 1000 || tried[api.ErrTooFew] < 300 {
		t.Errorf("the answers were %v", tried)
	}
}

// Files of several objects and writings, hurt and mingled, some of them twice and differently hurt.
func TestOpenOfMingledFiles(t *testing.T) {
	d := dice(17)
	tried := map[api.Errno]int{}
	for range 4000 {
		s := small()[d.next(15)]
		var files [][]byte
		for range 1 + d.next(3) {
			g := s.undamaged(d.bytes(1+d.next(9)), s.width()*(1+d.next(3)), uint64(d.next(2)))
			for range 1 + d.next(2) {
				g.files = copies(g.whole)
				if d.next(2) == 0 {
					g.spoil(&d)
				}
				files = append(files, g.files...)
			}
		}
		d.shuffle(files)
		files = files[:d.next(len(files)+1)]
		tried[checkOpened(t, fmt.Sprintf("%v, %x", s, files), files).fault]++
	}
	if tried[api.OK] < 1000 || tried[api.ErrTooFew] < 300 || tried[api.ErrGroup] < 30 {
		t.Errorf("the answers were %v", tried)
	}
}

// Present blocks are taken as they stand: shards of no codeword, be it in the padding too.
func TestOpenOfNoCodeword(t *testing.T) {
	d := dice(18)
	for _, s := range slices.Concat(small(), each([][2]int{{5, 4}, {10, 4}, {4, 9}}, api.Vander, api.Cauchy, api.Long)) {
		for range 25 {
			h := s.head(1+d.next(12*s.k), s.width()*(1+d.next(6)), 4)
			shards := d.shards(s.count(), h.Length)
			files := laidAll(h, shards)
			checkOpened(t, fmt.Sprintf("%v, all there", s), files)
			if data, fault := Open(files); fault != api.OK || !bytes.Equal(data, slices.Concat(shards[:s.k]...)[:h.Size]) {
				t.Fatalf("%v: Open of all files: %v, %d, of %v", s, data, fault, shards)
			}
			for range d.next(s.m + 1) {
				files[d.next(s.count())] = nil
			}
			checkOpened(t, fmt.Sprintf("%v, %+v, some lost", s, h), files)
			for range d.next(9) {
				if file := files[d.next(s.count())]; len(file) > 0 {
					file[48+d.next(len(file)-48)] ^= 1
				}
			}
			checkOpened(t, fmt.Sprintf("%v, %+v, some lost, some hurt", s, h), files)
		}
	}
}

// Whole data shards open whatever the parity's blocks are, but not if some block has too few: a parity block may be needed for nothing and be wanted all the same.
func TestTooFewForNothing(t *testing.T) {
	// All data blocks are there, so there are never too few.
	for _, s := range small() {
		g := s.undamaged([]byte{1, 2, 3, 4, 5, 6, 7}, 2, 1)
		for i := s.k; i < s.count(); i++ {
			g.drop(i)
		}
		checkOpen(t, fmt.Sprintf("%v, no parity", s), g.files[:s.k], opened{data: g.data, fresh: g.whole, bad: g.want().bad})
	}
	// One block that is padding alone, of no byte that was sealed, is too few.
	s := setting{api.Vander, 4, 1}
	g := s.undamaged([]byte{1, 2, 3, 4, 5}, 1, 1)
	g.spoilBlock(3, 1, 0, 1)
	g.drop(4)
	checkOpen(t, "padding alone is lost", g.files, opened{fault: api.ErrTooFew})
}

// The first file of a shard counts, even if a later one is in a better state.
func TestFirstFileCounts(t *testing.T) {
	s := setting{api.Cauchy, 2, 1}
	g := s.undamaged([]byte{1, 2, 3, 4, 5, 6}, 1, 1)
	hurt, also := changed(g.whole[0], 48, 1), changed(g.whole[1], 50, 1)
	for what, c := range map[string]struct {
		files [][]byte
		want  opened
	}{
		"hurt, then whole":        {[][]byte{hurt, g.whole[0], g.whole[1], g.whole[2]}, opened{data: g.data, fresh: g.whole, bad: []int{0}}},
		"whole, then hurt":        {[][]byte{g.whole[0], hurt, g.whole[1], g.whole[2]}, opened{data: g.data, fresh: g.whole}},
		"both hurt, then whole":   {[][]byte{hurt, also, g.whole[2], g.whole[0], g.whole[1]}, opened{fault: api.ErrTooFew}},
		"cut down, then whole":    {[][]byte{g.whole[0][:48], g.whole[0], g.whole[1]}, opened{fault: api.ErrTooFew}},
		"cut further, then whole": {[][]byte{g.whole[0][:47], g.whole[0], g.whole[1]}, opened{data: g.data, fresh: g.whole, bad: []int{2}}},
	} {
		checkOpen(t, what, c.files, c.want)
	}
}

// A group of few files of the greatest stamp counts, even if it can't be opened and another one can.
func TestTheGroupThatCountsMayBeTooFew(t *testing.T) {
	s := setting{api.Vander, 2, 1}
	old, late := s.undamaged([]byte{1, 2, 3}, 2, 1), s.undamaged([]byte{4, 5, 6}, 2, 2)
	checkOpen(t, "one late file", append(copies(old.whole), late.whole[1]), opened{fault: api.ErrTooFew})
	checkOpen(t, "two late files", append(copies(old.whole), late.whole[1:]...), opened{data: late.data, fresh: late.whole, bad: []int{0}})
	checkOpen(t, "a late file that isn't one", append(copies(old.whole), late.whole[1][:40]), opened{data: old.data, fresh: old.whole})
}

// What Renew answers is whole, and opens to the same bytes.
func TestRenewedFiles(t *testing.T) {
	d := dice(19)
	for _, s := range append(small(), middling()...) {
		for range 5 {
			h := s.head(1+d.next(9*s.k), s.width()*(1+d.next(6)), 4)
			files := laidAll(h, d.shards(s.count(), h.Length))
			for range d.next(s.m + 1) {
				files[d.next(s.count())] = nil
			}
			data, fault := Open(files)
			fresh, _, renewing := Renew(files)
			if fault != api.OK || renewing != api.OK {
				t.Fatalf("%v: Open: %d, Renew: %d", s, fault, renewing)
			}
			checkOpen(t, fmt.Sprintf("%v, renewed", s), fresh, opened{data: data, fresh: fresh})
			for i, file := range fresh {
				want := h
				want.Index = i
				if got, _, bad, fault := Read(file); got != want || len(bad) > 0 || fault != api.OK {
					t.Fatalf("%v, the fresh file %d: %+v, %v, %d", s, i, got, bad, fault)
				}
			}
		}
	}
}

// Objects of fewer bytes than there are data shards: some shards are padding alone.
func TestObjectsOfFewBytes(t *testing.T) {
	d := dice(20)
	for _, s := range append(middling(), setting{api.Vander, 200, 56}, setting{api.Long, 1000, 24}) {
		for _, size := range []int{1, 2, 3} {
			g := s.undamaged(d.bytes(size), s.width(), 9)
			for range s.m {
				g.drop(d.next(s.count()))
			}
			checkOpen(t, fmt.Sprintf("%v, %d bytes", s, size), g.left(), g.want())
		}
	}
}

// Many blocks, each with bad ones of its own.
func TestOpenOfManyBlocks(t *testing.T) {
	d := dice(21)
	for _, c := range []struct {
		s           setting
		size, block int
	}{
		{setting{api.Vander, 2, 2}, 131072, 1},
		{setting{api.Cauchy, 3, 2}, 3*65536 - 1, 1},
		{setting{api.Long, 2, 2}, 4 * 20000, 2},
		{setting{api.Cauchy, 100, 100}, 100 * 300, 3},
		{setting{api.Long, 60, 40}, 60 * 400, 4},
		{setting{api.Vander, 3, 1}, 3 << 20, 1 << 12},
	} {
		g := c.s.undamaged(d.bytes(c.size), c.block, 1)
		for b := range g.bad {
			for range d.next(c.s.m + 1) {
				if shard := d.next(c.s.count()); !g.bad[b][shard] {
					g.spoilBlock(shard, b, d.next(c.block+4), byte(1+d.next(255)))
				}
			}
		}
		want := g.want()
		if data, fault := Open(g.files); !bytes.Equal(data, want.data) || fault != api.OK {
			t.Fatalf("%v, %d bytes: Open: %d, or other bytes", c.s, c.size, fault)
		}
		if fresh, bad, fault := Renew(g.files); !alike(fresh, want.fresh) || !slices.Equal(bad, want.bad) || fault != api.OK {
			t.Fatalf("%v, %d bytes: Renew: %v, %d, or other bytes", c.s, c.size, bad, fault)
		}
	}
}

// Objects at the limits.
func TestOpenOfGreatObjects(t *testing.T) {
	d := dice(22)
	for _, c := range []struct {
		s           setting
		size, block int
		lost        []int
	}{
		{setting{api.Vander, 3, 1}, 3 << 24, 1 << 20, []int{1}},
		{setting{api.Cauchy, 1, 1}, 1<<25 - 5, 1 << 10, []int{0}},
		{setting{api.Long, 3000, 1000}, 3000 * 64, 8, []int{5, 77, 2999, 3000, 3999}},
	} {
		g := c.s.undamaged(d.bytes(c.size), c.block, 1)
		for _, i := range c.lost {
			g.drop(i)
		}
		if data, fault := Open(g.left()); !bytes.Equal(data, g.data) || fault != api.OK {
			t.Fatalf("%v, %d bytes: Open: %d, or other bytes", c.s, c.size, fault)
		}
		if fresh, bad, fault := Renew(g.left()); !alike(fresh, g.whole) || !slices.Equal(bad, c.lost) || fault != api.OK {
			t.Fatalf("%v, %d bytes: Renew: %v, %d, or other bytes", c.s, c.size, bad, fault)
		}
	}
}
