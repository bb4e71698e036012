package shape

import "cullet/api"

// Length: of the shards that n bytes are split into. ErrFamily, ErrParams, ErrNoData (n below 1), ErrSize (n above MaxTotal).
func Length(f api.Family, k, m, n int) (int, api.Errno) {
	if e := Params(f, k, m); e != api.OK {
		return 0, e
	}
	if n < 1 {
		return 0, api.ErrNoData
	}
	if n > api.MaxTotal {
		return 0, api.ErrSize
	}
	length := (n + k - 1) / k
	if f == api.Long {
		// Its shards are of words of two bytes.
		length += length % 2
	}
	return length, api.OK
}

// Split: k data shards with the bytes in their order, zeros behind them, and m parity shards of zeros. ErrFamily, ErrParams, ErrNoData, ErrSize (all shards together above MaxSealed bytes).
func Split(f api.Family, k, m int, data []byte) ([][]byte, api.Errno) {
	length, e := Length(f, k, m, len(data))
	if e != api.OK {
		return nil, e
	}
	if (k+m)*length > api.MaxSealed {
		return nil, api.ErrSize
	}
	shards := make([][]byte, k+m)
	for i := range shards {
		// Each shard is made by itself, for in one array a shard's spare room would be the next shard.
		shards[i] = make([]byte, length)
		// The data shards have room for all of the data, so nothing of it is left for the parity shards.
		data = data[copy(shards[i], data):]
	}
	return shards, api.OK
}

// Join: the first size bytes of the first k shards. ErrFamily, ErrParams, ErrCount (fewer than k), ErrEmpty, ErrUneven, ErrOdd, ErrJoin.
func Join(f api.Family, k, m int, shards [][]byte, size int) ([]byte, api.Errno) {
	if e := Params(f, k, m); e != api.OK {
		return nil, e
	}
	if len(shards) < k {
		return nil, api.ErrCount
	}
	shards = shards[:k]
	if anyEmpty(shards) {
		return nil, api.ErrEmpty
	}
	length, e := oneLength(f, shards)
	if e != api.OK {
		return nil, e
	}
	if size < 0 || size > k*length {
		return nil, api.ErrJoin
	}
	data := make([]byte, size)
	rest := data
	for _, shard := range shards {
		rest = rest[copy(rest, shard):]
	}
	return data, api.OK
}
