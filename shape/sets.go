package shape

import "cullet/api"

// Whole: the length of each of k + m shards, none of them empty. ErrFamily, ErrParams, ErrCount, ErrEmpty, ErrUneven, ErrOdd.
func Whole(f api.Family, k, m int, shards [][]byte) (int, api.Errno) {
	if e := Params(f, k, m); e != api.OK {
		return 0, e
	}
	if len(shards) != k+m {
		return 0, api.ErrCount
	}
	if anyEmpty(shards) {
		return 0, api.ErrEmpty
	}
	return oneLength(f, shards)
}

// Partial: the length of the shards, and the numbers of the empty ones. ErrFamily, ErrParams, ErrCount, ErrEmpty (all of them), ErrUneven, ErrOdd, ErrTooFew.
func Partial(f api.Family, k, m int, shards [][]byte) (int, []int, api.Errno) {
	if e := Params(f, k, m); e != api.OK {
		return 0, nil, e
	}
	if len(shards) != k+m {
		return 0, nil, api.ErrCount
	}
	missing := numbers(shards, isEmpty)
	if len(missing) == len(shards) {
		return 0, nil, api.ErrEmpty
	}
	length, e := oneLength(f, shards)
	if e != api.OK {
		return 0, nil, e
	}
	if len(missing) > m {
		return 0, nil, api.ErrTooFew
	}
	return length, missing, api.OK
}

// Fresh: the length, and the numbers of the fresh data shards that are not empty. ErrFamily, ErrParams, ErrCount, ErrEmpty, ErrUneven, ErrOdd.
func Fresh(f api.Family, k, m int, shards, fresh [][]byte) (int, []int, api.Errno) {
	if e := Params(f, k, m); e != api.OK {
		return 0, nil, e
	}
	if len(shards) != k+m || len(fresh) != k {
		return 0, nil, api.ErrCount
	}
	if anyEmpty(shards) {
		return 0, nil, api.ErrEmpty
	}
	length, e := oneLength(f, shards, fresh)
	if e != api.OK {
		return 0, nil, e
	}
	return length, numbers(fresh, isFull), api.OK
}

func isEmpty(shard []byte) bool { return len(shard) == 0 }

func isFull(shard []byte) bool { return len(shard) != 0 }

func anyEmpty(shards [][]byte) bool {
	for _, shard := range shards {
		if isEmpty(shard) {
			return true
		}
	}
	return false
}

// numbers: of those shards that are of the kind, rising.
func numbers(shards [][]byte, kind func([]byte) bool) []int {
	var list []int
	for i, shard := range shards {
		if kind(shard) {
			list = append(list, i)
		}
	}
	return list
}

// oneLength: that of all shards of the lists but the empty ones, which callers have refused where they may not be. ErrUneven, ErrOdd.
func oneLength(f api.Family, lists ...[][]byte) (int, api.Errno) {
	length := 0
	for _, list := range lists {
		for _, shard := range list {
			if isEmpty(shard) {
				continue
			}
			if length != 0 && len(shard) != length {
				return 0, api.ErrUneven
			}
			length = len(shard)
		}
	}
	if f == api.Long && length%2 == 1 {
		return 0, api.ErrOdd
	}
	return length, api.OK
}
