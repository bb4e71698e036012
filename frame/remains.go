package frame

import (
	"bytes"
	"slices"

	"cullet/api"
)

// remains is what the files hold of the group that counts.
type remains struct {
	head    api.Head
	shards  [][]byte // zeros stand in the place of bad blocks; empty where there is no file
	missing [][]byte // for each block number and each shard: 1, if this block of the shard is missing
	hurt    []int    // the shards of which a block is missing
}

// gather reads the files of the group that counts. ErrGroup, ErrTooFew.
func gather(files [][]byte) (*remains, api.Errno) {
	head, numbers, fault := Choose(files)
	if fault != api.OK {
		return nil, fault
	}
	r := &remains{head: head, shards: make([][]byte, len(numbers)), missing: make([][]byte, blocksOf(head))}
	for block := range r.missing {
		r.missing[block] = make([]byte, len(numbers))
	}
	all := allBlocks(head)
	for i, number := range numbers {
		if number < 0 {
			r.mark(i, all)
			continue
		}
		_, shard, bad, _ := Read(files[number])
		r.shards[i] = shard
		r.mark(i, bad)
	}
	if slices.ContainsFunc(r.missing, r.isTooFew) {
		return nil, api.ErrTooFew
	}
	return r, api.OK
}

func allBlocks(h api.Head) []int {
	list := make([]int, blocksOf(h))
	for block := range list {
		list[block] = block
	}
	return list
}

// mark: these blocks of the shard are missing.
func (r *remains) mark(shard int, blocks []int) {
	for _, block := range blocks {
		r.missing[block][shard] = 1
	}
	if len(blocks) > 0 {
		r.hurt = append(r.hurt, shard)
	}
}

// isTooFew: are fewer blocks present than are needed?
func (r *remains) isTooFew(missing []byte) bool {
	return bytes.Count(missing, []byte{1}) > r.head.Parity
}

// restore puts the missing blocks of the first so many shards in, by a call that gives empty shards back. Blocks that miss the same shards go through one call: how these are given back is then worked out once. That call's errors, of which there are none.
func (r *remains) restore(wanted int, giveBack func(shards [][]byte) api.Errno) api.Errno {
	for i := range wanted {
		if len(r.shards[i]) == 0 {
			r.shards[i] = make([]byte, r.head.Length)
		}
	}
	for _, blocks := range r.alike(wanted) {
		pieces := r.cut(blocks)
		if fault := giveBack(pieces); fault != api.OK {
			return fault
		}
		r.paste(blocks, pieces)
	}
	return api.OK
}

// alike: the numbers of the blocks of which one of the first so many shards' is missing, in lists of those that miss the same shards.
func (r *remains) alike(wanted int) [][]int {
	var lists [][]int
	places := map[string]int{} // in lists, by what is missing
	for block, missing := range r.missing {
		if bytes.IndexByte(missing[:wanted], 1) < 0 {
			continue
		}
		place, seen := places[string(missing)]
		if !seen {
			place = len(lists)
			places[string(missing)] = place
			lists = append(lists, nil)
		}
		lists[place] = append(lists[place], block)
	}
	return lists
}

// cut: of each shard the blocks of these numbers, which miss the same shards, one behind the other; of those shards nothing.
func (r *remains) cut(blocks []int) [][]byte {
	missing := r.missing[blocks[0]]
	pieces := make([][]byte, len(r.shards))
	for i, shard := range r.shards {
		if missing[i] == 1 {
			continue
		}
		pieces[i] = make([]byte, 0, min(len(blocks)*r.head.Block, r.head.Length))
		for _, block := range blocks {
			from, to := bounds(r.head, block)
			pieces[i] = append(pieces[i], shard[from:to]...)
		}
	}
	return pieces
}

// paste lays what cut's pieces have been given back into the shards.
func (r *remains) paste(blocks []int, pieces [][]byte) {
	missing := r.missing[blocks[0]]
	for i, piece := range pieces {
		if missing[i] == 0 || len(piece) == 0 {
			continue
		}
		for _, block := range blocks {
			from, to := bounds(r.head, block)
			piece = piece[copy(r.shards[i][from:to], piece):]
		}
	}
}
