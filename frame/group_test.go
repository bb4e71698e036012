package frame

import (
	"bytes"
	"fmt"
	"math"
	"runtime"
	"slices"
	"testing"

	"cullet/api"
)

// P25.7.

// bunch: files of every kind that matters to Choose, and what Read answers for each.
func bunch() (files [][]byte, readings []reading) {
	h := setting{api.Vander, 2, 1}.head(3, 1, 7)
	add := func(index int, turn func(h *api.Head)) []byte {
		other := h
		other.Index = index
		turn(&other)
		files = append(files, laid(other, []byte{5, 6}))
		return files[len(files)-1]
	}
	same := func(*api.Head) {}
	first := add(0, same)
	add(1, same)
	add(2, same)
	add(0, func(h *api.Head) { h.Block = 2 })
	add(1, func(h *api.Head) { h.Block = 2 })
	add(1, func(h *api.Head) { h.Size = 4 })
	add(0, func(h *api.Head) { h.Stamp = 6 })
	add(1, func(h *api.Head) { h.Stamp = 6 })
	add(2, func(h *api.Head) { h.Stamp = 1<<64 - 1 })
	// Another file of the first one's shard, of which nothing is left behind the head.
	files = append(files, first[:48:48])
	// No files: a byte too much, a changed head, and a cut one, all of a stamp above all others'.
	high := laid(setting{api.Vander, 2, 1}.head(3, 1, 1<<64-1), []byte{5, 6})
	files = append(files, append(bytes.Clone(high), 0), changed(high, 10, 1), high[:47])
	return files, readAll(files)
}

// Every list of up to four files of each kind.
func TestChooseOfShortLists(t *testing.T) {
	files, readings := bunch()
	for n := range 5 {
		countLists(n, len(files), func(list []int) {
			var some [][]byte
			var read []reading
			for _, i := range list {
				some = append(some, files[i])
				read = append(read, readings[i])
			}
			checkChoose(t, fmt.Sprint(list), some, chosenOf(read))
		})
	}
}

// Longer lists, where the groups' sizes and their first files differ more.
func TestChooseOfThrownLists(t *testing.T) {
	files, readings := bunch()
	d := dice(10)
	for range 30000 {
		var list []int
		var some [][]byte
		var read []reading
		// Without the one of the greatest stamp, which would be chosen mostly.
		from := d.oneOf(0, 0, 0, 3)
		for range 3 + d.next(9) {
			i := from + d.next(8-from)
			if d.next(3) == 0 {
				i = 9 + d.next(len(files)-9)
			}
			list = append(list, i)
			some = append(some, files[i])
			read = append(read, readings[i])
		}
		checkChoose(t, fmt.Sprint(list), some, chosenOf(read))
	}
}

// Heads that differ in any one thing but Index are of two groups.
func TestGroupsAreApart(t *testing.T) {
	h := setting{api.Vander, 2, 2}.head(16, 4, 5)
	h.Index = 1
	for what, turn := range map[string]func(h *api.Head){
		"Family":          func(h *api.Head) { h.Family = api.Cauchy },
		"Data":            func(h *api.Head) { h.Data, h.Size = 1, 8 },
		"Data and Size":   func(h *api.Head) { h.Data, h.Size = 3, 24 },
		"Parity":          func(h *api.Head) { h.Parity = 3 },
		"Size":            func(h *api.Head) { h.Size = 15 },
		"Size and Length": func(h *api.Head) { h.Size, h.Length = 18, 9 },
		"Block":           func(h *api.Head) { h.Block = 5 },
		"Stamp":           func(h *api.Head) { h.Stamp = 4 },
	} {
		other := h
		turn(&other)
		other.Index = 2
		a, b := laid(h, make([]byte, h.Length)), laid(other, make([]byte, other.Length))
		h0, other0 := h, other
		h0.Index, other0.Index = 0, 0
		late := make([]int, other.Data+other.Parity)
		for i := range late {
			late[i] = -1
		}
		late[2] = 0
		want := choice{other0, late, api.OK}
		if what == "Stamp" {
			want = choice{h0, []int{-1, 1, -1, -1}, api.OK}
		}
		checkChoose(t, what, [][]byte{b, a}, want)
		checkChoose(t, what+", the other way about", [][]byte{a, b}, choice{h0, []int{-1, 0, -1, -1}, api.OK})
	}
}

// The stamps are numbers without a sign, and stand ahead of how many files there are.
func TestGreatestStamp(t *testing.T) {
	s := setting{api.Cauchy, 3, 2}
	stamps := []uint64{0, 1, 255, 256, 1<<31 - 1, 1 << 31, 1<<32 - 1, 1 << 32, math.MaxInt64, math.MaxInt64 + 1, math.MaxUint64 - 1, math.MaxUint64}
	for i, high := range stamps {
		for _, less := range stamps[:i] {
			var files [][]byte
			for index := range s.count() {
				h := s.head(5, 1, less)
				h.Index = index
				files = append(files, laid(h, []byte{1, 2}))
			}
			h := s.head(5, 1, high)
			h.Index = 3
			files = append(files, laid(h, []byte{1, 2}))
			h.Index = 0
			checkChoose(t, fmt.Sprintf("the stamps %d and %d", less, high), files, choice{h, []int{-1, -1, -1, 5, -1}, api.OK})
			slices.Reverse(files)
			checkChoose(t, fmt.Sprintf("the stamps %d and %d", high, less), files, choice{h, []int{-1, -1, -1, 0, -1}, api.OK})
		}
	}
}

// Many files of one shard make their group no greater.
func TestOneShardManyTimes(t *testing.T) {
	s := setting{api.Vander, 2, 2}
	one, two := s.head(4, 1, 3), s.head(4, 2, 3)
	files := slices.Repeat([][]byte{laid(one, []byte{1, 2})}, 9)
	for index := range 2 {
		h := two
		h.Index = 2 * index
		files = append(files, laid(h, []byte{1, 2}))
	}
	checkChoose(t, "nine of one shard, and two shards", files, choice{two, []int{9, -1, 10, -1}, api.OK})
}

// Of no files, and of none that is one: ErrGroup.
func TestNoGroup(t *testing.T) {
	file := laid(plain, []byte{7, 8})
	forged := saying(plain)
	forged.zeros = 1
	for what, files := range map[string][][]byte{
		"nil":              nil,
		"no files":         {},
		"an empty one":     {nil},
		"two empty ones":   {{}, nil},
		"some bytes":       {{1, 2, 3}, bytes.Repeat([]byte{9}, 100)},
		"a cut head":       {file[:47]},
		"a byte too much":  {append(bytes.Clone(file), 0)},
		"another magic":    {changed(file, 0, 1)},
		"a wrong sum":      {changed(file, 47, 1)},
		"a changed stamp":  {changed(file, 32, 1)},
		"a head of others": {forged.bytes()},
	} {
		checkChoose(t, what, files, choice{fault: api.ErrGroup})
		checkOpen(t, what, files, opened{fault: api.ErrGroup})
		// Beside a file that is one they are passed over.
		checkChoose(t, what+" and a file", append(slices.Clone(files), file), choice{plainGroup(), []int{len(files), -1, -1}, api.OK})
	}
}

// plainGroup: the head of the example's group.
func plainGroup() api.Head {
	h := plain
	h.Index = 0
	return h
}

// Codes of many shards.
func TestChooseOfGreatCodes(t *testing.T) {
	d := dice(11)
	for _, s := range append(middling(), setting{api.Long, 32768, 32768}, setting{api.Long, 65535, 1}) {
		h := s.head(1, s.width(), 1<<40)
		var files [][]byte
		want := make([]int, s.count())
		for i := range want {
			want[i] = -1
		}
		for range s.count() / 2 {
			h.Index = d.next(s.count())
			if want[h.Index] < 0 {
				want[h.Index] = len(files)
			}
			files = append(files, laid(h, make([]byte, h.Length)))
		}
		h.Index = 0
		checkChoose(t, fmt.Sprint(s), files, choice{h, want, api.OK})
	}
}

// No more is worked out than the files' bytes and the shards of the group that counts: what the heads of other groups say costs nothing.
func TestOtherGroupsAreNotRead(t *testing.T) {
	var files [][]byte
	for stamp := range 200 {
		files = append(files, saying(setting{api.Vander, 1, 1}.head(1<<25, 1<<20, uint64(stamp))).bytes())
	}
	h := setting{api.Vander, 1, 1}.head(1, 1, 1000)
	files = append(files, laid(h, []byte{7}))
	var was, now runtime.MemStats
	runtime.ReadMemStats(&was)
	data, opening := Open(files)
	fresh, bad, renewing := Renew(files)
	runtime.ReadMemStats(&now)
	if !bytes.Equal(data, []byte{7}) || opening != api.OK || len(fresh) != 2 || !slices.Equal(bad, []int{1}) || renewing != api.OK {
		t.Errorf("Open: %v, %d; Renew: %v, %v, %d", data, opening, fresh, bad, renewing)
	}
	if taken := now.TotalAlloc - was.TotalAlloc; taken > 64<<20 {
		t.Errorf("%d bytes of memory were taken", taken)
	}
}
