package frame

import (
	"bytes"
	"fmt"
	"math"
	"runtime"
	"slices"
	"sync"
	"testing"
	"time"

	"cullet/api"
)

// P1 and the document's rules.

// framed: a copy of the list amid other bytes, which are its spare room too.
func framed(list []byte) (inner, whole []byte) {
	whole = slices.Concat([]byte{0xE1, 0xE2}, list, bytes.Repeat([]byte{0xE3}, 70))
	return whole[2 : 2+len(list)], whole
}

// scene is a list of files as a call is handed them, and the memory about it.
type scene struct {
	files    [][]byte
	all      [][]byte // the list with its spare room
	memories [][]byte
}

func stage(files [][]byte) *scene {
	x := &scene{}
	x.all = append(x.all, []byte{1})
	for _, file := range files {
		inner, whole := framed(file)
		x.all = append(x.all, inner)
		x.memories = append(x.memories, whole)
	}
	x.all = append(x.all, []byte{2}, []byte{3})
	x.files = x.all[1 : 1+len(files)]
	return x
}

// changed: does anything differ from what a stage of these files is?
func (x *scene) changed(files [][]byte) bool {
	y := stage(files)
	return !alike(x.all, y.all) || !alike(x.memories, y.memories) || slices.ContainsFunc(x.all, func(l []byte) bool { return l == nil })
}

// wipe writes over all that was handed in.
func (x *scene) wipe() {
	for _, memory := range x.memories {
		for i := range memory {
			memory[i] = 0xA5
		}
	}
	clear(x.all)
}

// apart: does each list have its memory for itself, its spare room too?
func apart(lists [][]byte) bool {
	for i, list := range lists {
		list = list[:cap(list)]
		for at := range list {
			list[at] = byte(i)
		}
	}
	for i, list := range lists {
		if !bytes.Equal(list[:cap(list)], bytes.Repeat([]byte{byte(i)}, cap(list))) {
			return false
		}
	}
	return true
}

// someLists: of files whole, hurt, cut, left out, and of none that counts.
func someLists() [][][]byte {
	d := dice(23)
	lists := [][][]byte{nil, {nil}, {{}, {1, 2, 3}}}
	for _, s := range small() {
		for range 8 {
			g := s.undamaged(d.bytes(1+d.next(20)), s.width()*(1+d.next(3)), 2)
			if d.next(4) > 0 {
				g.spoil(&d)
			}
			lists = append(lists, g.left(), g.files)
		}
	}
	return lists
}

// What is handed in is not changed, its spare room included, and not kept; answers share no memory with it or with one another.
func TestFilesAreNotChangedOrKept(t *testing.T) {
	for _, files := range someLists() {
		what := fmt.Sprintf("%x", files)
		want := openedOf(files)
		wantChoice := chosenOf(readAll(files))
		x := stage(files)
		_, numbers, _ := Choose(x.files)
		data, fault := Open(x.files)
		fresh, bad, _ := Renew(x.files)
		if x.changed(files) {
			t.Fatalf("%s: files were changed", what)
		}
		x.wipe()
		if !slices.Equal(numbers, wantChoice.numbers) || fault != want.fault || !bytes.Equal(data, want.data) || !alike(fresh, want.fresh) || !slices.Equal(bad, want.bad) {
			t.Fatalf("%s: answers changed with the files", what)
		}
		x = stage(files)
		data, _ = Open(x.files)
		fresh, _, _ = Renew(x.files)
		more, _, _ := Renew(x.files)
		if !apart(slices.Concat([][]byte{data}, fresh, more)) || x.changed(files) {
			t.Fatalf("%s: answers share memory", what)
		}
	}
}

// Likewise of Read, ReadHead, Sum and Fold.
func TestFileIsNotChangedOrKept(t *testing.T) {
	for _, file := range slices.Concat(someLists()...) {
		x := stage([][]byte{file})
		want := readIn(file)
		Sum(x.files[0])
		Fold(5, x.files[0])
		ReadHead(x.files[0])
		_, shard, _, _ := Read(x.files[0])
		_, other, bad, _ := Read(x.files[0])
		if x.changed([][]byte{file}) {
			t.Fatalf("%x was changed", file)
		}
		x.wipe()
		if !bytes.Equal(shard, want.shard) || !slices.Equal(bad, want.bad) {
			t.Fatalf("%x: the shard changed with the file", file)
		}
		x = stage([][]byte{file})
		_, shard, _, _ = Read(x.files[0])
		if !apart([][]byte{shard, other}) || x.changed([][]byte{file}) {
			t.Fatalf("%x: the shard shares memory", file)
		}
	}
}

// Likewise of Pack and Seal.
func TestShardsAndDataAreNotChangedOrKept(t *testing.T) {
	d := dice(24)
	for _, s := range small() {
		for _, o := range s.manyOptions() {
			for _, size := range []int{0, 1, 2, 7, 24} {
				data := d.bytes(size)
				o.Picks = []int{3, 1, 2}
				x := stage([][]byte{data})
				sealed, fault := Seal(o, 2, 1, x.files[0])
				again, _ := Seal(o, 2, 1, x.files[0])
				if x.changed([][]byte{data}) || !slices.Equal(o.Picks, []int{3, 1, 2}) {
					t.Fatalf("%+v: Seal changed what it was handed", o)
				}
				x.wipe()
				clear(o.Picks)
				if fault == api.OK && !alike(sealed, s.sealed(2, 1, data)) {
					t.Fatalf("%+v: the files changed with the data", o)
				}
				x = stage([][]byte{data})
				more, _ := Seal(o, 2, 1, x.files[0])
				if !apart(slices.Concat(sealed, again, more)) || x.changed([][]byte{data}) {
					t.Fatalf("%+v: the files share memory", o)
				}
				x = stage([][]byte{data})
				file, _ := Pack(s.head(size, 2, 1), x.files[0])
				other, _ := Pack(s.head(size, 2, 1), x.files[0])
				if !apart([][]byte{file, other}) || x.changed([][]byte{data}) {
					t.Fatalf("%v: Pack changed the shard, or its file shares memory", s)
				}
			}
		}
	}
}

// Lists of numbers that are answered are new each time.
func TestNumbersAreNew(t *testing.T) {
	g := setting{api.Vander, 3, 2}.undamaged([]byte{1, 2, 3, 4, 5, 6, 7, 8, 9}, 1, 1)
	g.spoilBlock(1, 0, 0, 1)
	g.spoilBlock(1, 2, 0, 1)
	g.drop(4)
	spoil := func(list []int) {
		list = list[:cap(list)]
		for i := range list {
			list[i] = -9
		}
	}
	for range 3 {
		_, numbers, _ := Choose(g.left())
		_, bad, _ := Renew(g.left())
		_, _, blocks, _ := Read(g.files[1])
		if !slices.Equal(numbers, []int{0, 1, 2, 3, -1}) || !slices.Equal(bad, []int{1, 4}) || !slices.Equal(blocks, []int{0, 2}) {
			t.Fatalf("Choose: %v, Renew: %v, Read: %v", numbers, bad, blocks)
		}
		spoil(numbers)
		spoil(bad)
		spoil(blocks)
	}
}

// Nil and empty lists are one.
func TestNilAndEmpty(t *testing.T) {
	file := laid(plain, []byte{7, 8})
	for _, none := range [][]byte{nil, {}, file[:0]} {
		if Sum(none) != 0 || Fold(7, none) != 7 {
			t.Error("sums of nothing")
		}
		checkRead(t, "nothing", none)
		if _, fault := Seal(setting{api.Vander, 2, 1}.options(), 2, 1, none); fault != api.ErrNoData {
			t.Errorf("Seal of nothing: %d", fault)
		}
		if _, fault := Pack(plain, none); fault != api.ErrLens {
			t.Errorf("Pack of nothing: %d", fault)
		}
		checkOpened(t, "a file and nothing", [][]byte{none, file, none})
		o := setting{api.Vander, 2, 1}.options()
		for _, picks := range [][]int{nil, {}} {
			o.Scripted, o.Picks = true, picks
			checkSeal(t, o, 2, 1, []byte{1, 2, 3}, setting{api.Vander, 2, 1}.sealed(2, 1, []byte{1, 2, 3}))
		}
	}
}

func endsQuietly(t *testing.T, what string, run func()) {
	t.Helper()
	defer func() {
		if p := recover(); p != nil {
			t.Errorf("%s panics: %v", what, p)
		}
	}()
	run()
}

// Any bytes at all, and heads with a right sum that say anything: the calls answer what the chapter's words say.
func TestAnyBytes(t *testing.T) {
	d := dice(25)
	for range 3000 {
		var files [][]byte
		for range d.next(5) {
			file := d.bytes(d.next(200))
			if d.next(2) == 0 {
				file = slices.Concat([]byte("CULL\x01"), file)
			}
			if d.next(2) == 0 && len(file) >= 48 {
				copy(file[44:], low(uint64(sumOf(file[:44])), 4))
			}
			files = append(files, file)
		}
		what := fmt.Sprintf("%x", files)
		endsQuietly(t, what, func() { checkOpened(t, what, files) })
		for _, file := range files {
			endsQuietly(t, what, func() { checkRead(t, what, file) })
		}
	}
}

// Heads whose numbers are small, or at the limits, or anything: most of these are near to good ones.
func TestAnyHeads(t *testing.T) {
	d := dice(26)
	numbers := []uint64{0, 1, 2, 3, 4, 5, 6, 255, 256, 1 << 16, 1 << 20, 1<<32 - 1, 1 << 40, 1<<63 - 1, 1 << 63, math.MaxUint64}
	read := 0
	for range 3000 {
		var files [][]byte
		for range 1 + d.next(3) {
			h := small()[d.next(15)].head(1+d.next(8), 2, uint64(d.next(3)))
			h.Index = d.next(4)
			x := saying(h)
			for _, at := range []*uint64{&x.family, &x.data, &x.parity, &x.index, &x.block, &x.size, &x.length, &x.stamp, &x.zeros} {
				if d.next(20) == 0 {
					*at = numbers[d.next(len(numbers))]
				}
			}
			files = append(files, append(x.bytes(), d.bytes(d.next(40))...))
		}
		what := fmt.Sprintf("%x", files)
		endsQuietly(t, what, func() {
			if checkOpened(t, what, files).fault != api.ErrGroup {
				read++
			}
		})
	}
	if read < 500 {
		t.Errorf("%d lists had a file", read)
	}
}

// Heads alone of the greatest shards and the greatest codes.
func TestHeadsOfGreatShards(t *testing.T) {
	for _, s := range []setting{{api.Vander, 1, 1}, {api.Vander, 128, 128}, {api.Cauchy, 255, 1}, {api.Long, 1, 1}, {api.Long, 32768, 32768}} {
		h := s.head(1<<26/s.count()/2*2*s.k, 1<<20, 1)
		for _, index := range []int{0, s.count() - 1} {
			h.Index = index
			file := saying(h).bytes()
			got, shard, bad, fault := Read(file)
			if got != h || len(shard) != h.Length || len(bad) != blockCount(h) || fault != api.OK {
				t.Errorf("%v: Read: %+v, %d bytes, %v, %d", s, got, len(shard), bad, fault)
			}
			checkOpen(t, fmt.Sprint(s), [][]byte{file}, opened{fault: api.ErrTooFew})
		}
	}
}

// Files that share their memory with one another.
func TestOneFileInManyPlaces(t *testing.T) {
	d := dice(27)
	for _, s := range small() {
		g := s.undamaged(d.bytes(9), 2, 1)
		joined := slices.Concat(g.whole...)
		length := len(g.whole[0])
		var files [][]byte
		for i := range s.count() {
			// Each file's spare room is the next one.
			files = append(files, joined[i*length:(i+1)*length])
		}
		files = append(files, files...)
		checkOpened(t, fmt.Sprint(s), files)
		if !bytes.Equal(joined, slices.Concat(g.whole...)) {
			t.Errorf("%v: files were changed", s)
		}
	}
}

// What a call answers hangs on its arguments alone, and calls of several goroutines don't stand in one another's way (the race detector's test too).
func TestCallsInCompany(t *testing.T) {
	type task struct {
		files [][]byte
		want  opened
	}
	var tasks []task
	for _, files := range someLists() {
		tasks = append(tasks, task{files, openedOf(files)})
	}
	s := setting{api.Long, 3, 2}
	data := []byte{1, 2, 3, 4, 5, 6, 7, 8, 9}
	sealed := s.sealed(2, 1, data)
	var all sync.WaitGroup
	for range 6 {
		all.Go(func() {
			for _, x := range tasks {
				data, fault := Open(x.files)
				fresh, bad, _ := Renew(x.files)
				if fault != x.want.fault || !bytes.Equal(data, x.want.data) || !alike(fresh, x.want.fresh) || !slices.Equal(bad, x.want.bad) {
					t.Errorf("%x: %v, %d, %x, %v in company, %v alone", x.files, data, fault, fresh, bad, x.want)
				}
			}
			if files, fault := Seal(s.options(), 2, 1, data); fault != api.OK || !alike(files, sealed) {
				t.Errorf("Seal in company: %x, %d", files, fault)
			}
		})
	}
	all.Wait()
}

// All goroutines that a call has started have ended when it answers. (One that has done its last act may still be counted for a moment.)
func TestNoGoroutineIsLeft(t *testing.T) {
	was := runtime.NumGoroutine()
	d := dice(28)
	for _, s := range []setting{{api.Vander, 4, 3}, {api.Long, 4, 3}} {
		for _, scripted := range []bool{false, true} {
			o := s.options()
			o.Workers, o.Stripe, o.Scripted = 64, 1, scripted
			data := d.bytes(400)
			checkSeal(t, o, 2, 1, data, s.sealed(2, 1, data))
			checkOpen(t, fmt.Sprint(s), s.sealed(2, 1, data)[3:], opened{data: data, fresh: s.sealed(2, 1, data), bad: []int{0, 1, 2}})
		}
	}
	for wait := 0; runtime.NumGoroutine() > was && wait < 2000; wait++ {
		time.Sleep(time.Millisecond)
	}
	if now := runtime.NumGoroutine(); now > was {
		t.Errorf("%d goroutines, and %d ahead", now, was)
	}
}
