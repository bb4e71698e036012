package frame

import (
	"cullet/api"
	"cullet/shape"
)

const (
	magic     = "CULL\x01"
	sumLen    = 4                    // bytes of a sum
	headSumAt = api.HeadLen - sumLen // the head's own sum; it is of the bytes ahead of it
)

// CheckHead: can there be such a shard? ErrHead.
func CheckHead(h api.Head) api.Errno {
	length, fault := shape.Length(h.Family, h.Data, h.Parity, h.Size)
	if fault != api.OK || h.Length != length {
		return api.ErrHead
	}
	count := h.Data + h.Parity
	if h.Index < 0 || h.Index >= count || count*length > api.MaxSealed {
		return api.ErrHead
	}
	if !isBlock(h.Family, h.Block) || blocksOf(h) > api.MaxSpans {
		return api.ErrHead
	}
	return api.OK
}

// isBlock: can blocks of the family's shards have so many bytes?
func isBlock(f api.Family, block int) bool {
	if block < 1 || block > api.MaxBlock {
		return false
	}
	// The bytes of a word stay together.
	return f != api.Long || block%2 == 0
}

// blocksOf: how many blocks the shard has.
func blocksOf(h api.Head) int { return (h.Length + h.Block - 1) / h.Block }

// bounds: where in its shard the block lies.
func bounds(h api.Head, block int) (from, to int) {
	from = block * h.Block
	return from, min(from+h.Block, h.Length)
}

// ReadHead. ErrCut, ErrMagic, ErrSum, ErrHead.
func ReadHead(file []byte) (api.Head, api.Errno) {
	switch {
	case len(file) < api.HeadLen:
		return api.Head{}, api.ErrCut
	case string(file[:len(magic)]) != magic:
		return api.Head{}, api.ErrMagic
	case headSum(file) != Sum(file[:headSumAt]):
		return api.Head{}, api.ErrSum
	case numberIn(file[40:44]) != 0:
		return api.Head{}, api.ErrHead
	}
	h := api.Head{
		Family: api.Family(file[5]),
		Data:   int(numberIn(file[6:8])),
		Parity: int(numberIn(file[8:10])),
		Index:  int(numberIn(file[10:12])),
		Block:  int(numberIn(file[12:16])),
		// What is too great for an int becomes less than 0, which is not good either.
		Size:   int(numberIn(file[16:24])),
		Length: int(numberIn(file[24:32])),
		Stamp:  numberIn(file[32:40]),
	}
	if fault := CheckHead(h); fault != api.OK {
		return api.Head{}, fault
	}
	return h, api.OK
}

// headSum: what the head says that its sum is.
func headSum(file []byte) uint32 { return uint32(numberIn(file[headSumAt:api.HeadLen])) }

// putHead lays the head into a file of zeros.
func putHead(file []byte, h api.Head) {
	copy(file, magic)
	file[5] = byte(h.Family)
	putNumber(file[6:8], uint64(h.Data))
	putNumber(file[8:10], uint64(h.Parity))
	putNumber(file[10:12], uint64(h.Index))
	putNumber(file[12:16], uint64(h.Block))
	putNumber(file[16:24], uint64(h.Size))
	putNumber(file[24:32], uint64(h.Length))
	putNumber(file[32:40], h.Stamp)
	putNumber(file[headSumAt:api.HeadLen], uint64(Sum(file[:headSumAt])))
}
