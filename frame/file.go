package frame

import "cullet/api"

// Pack: the shard's file. ErrHead, ErrLens.
func Pack(h api.Head, shard []byte) ([]byte, api.Errno) {
	if fault := CheckHead(h); fault != api.OK {
		return nil, fault
	}
	if len(shard) != h.Length {
		return nil, api.ErrLens
	}
	file := make([]byte, wholeLength(h))
	putHead(file, h)
	for block := range blocksOf(h) {
		from, to := bounds(h, block)
		body, sum, _ := held(file, h, block)
		copy(body, shard[from:to])
		putNumber(sum, uint64(blockSum(file, block, body)))
	}
	return file, api.OK
}

// Read: the head, the shard with zeros in the place of blocks that are cut off or have a wrong sum, and these blocks' numbers. ErrCut, ErrMagic, ErrSum, ErrHead.
func Read(file []byte) (h api.Head, shard []byte, bad []int, e api.Errno) {
	h, fault := readable(file)
	if fault != api.OK {
		return api.Head{}, nil, nil, fault
	}
	shard = make([]byte, h.Length)
	for block := range blocksOf(h) {
		from, to := bounds(h, block)
		body, sum, whole := held(file, h, block)
		if whole && numberIn(sum) == uint64(blockSum(file, block, body)) {
			copy(shard[from:to], body)
		} else {
			bad = append(bad, block)
		}
	}
	return h, shard, bad, api.OK
}

// readable: the head of a file that Read answers OK for. Read's errors.
func readable(file []byte) (api.Head, api.Errno) {
	h, fault := ReadHead(file)
	if fault == api.OK && len(file) > wholeLength(h) {
		return api.Head{}, api.ErrCut
	}
	return h, fault
}

// wholeLength: of the file of a good head.
func wholeLength(h api.Head) int { return api.HeadLen + h.Length + sumLen*blocksOf(h) }

// held: the bytes of a block and those of its sum, in the file's own memory; false, if the file doesn't hold them all.
func held(file []byte, h api.Head, block int) (body, sum []byte, whole bool) {
	from, to := bounds(h, block)
	at := api.HeadLen + from + sumLen*block
	end := at + to - from
	if len(file) < end+sumLen {
		return nil, nil, false
	}
	return file[at:end], file[end : end+sumLen], true
}

// blockSum: of the head ahead of its own sum, the block's number and its bytes. The head's sum is the sum of the first of these, so this goes on from there.
func blockSum(file []byte, block int, body []byte) uint32 {
	place := make([]byte, 4)
	putNumber(place, uint64(block))
	return Fold(Fold(headSum(file), place), body)
}
