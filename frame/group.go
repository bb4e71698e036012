package frame

import (
	"cmp"
	"slices"

	"cullet/api"
)

// Choose: the group of files that counts: its head (Index 0), and for each of its shards the number of its file, or -1. ErrGroup.
func Choose(files [][]byte) (api.Head, []int, api.Errno) {
	first := map[api.Head]int{}  // the first file with a head
	shards := map[api.Head]int{} // of a group, by its head with Index 0: how many shards have a file
	var groups []api.Head        // in the order of their first files
	for number, file := range files {
		// Of a file that counts for nothing no more than the head is read, however long a shard it tells of.
		h, fault := readable(file)
		if fault != api.OK {
			continue
		}
		if _, seen := first[h]; seen {
			continue
		}
		first[h] = number
		h.Index = 0
		if shards[h] == 0 {
			groups = append(groups, h)
		}
		shards[h]++
	}
	if len(groups) == 0 {
		return api.Head{}, nil, api.ErrGroup
	}
	// Of several that are alike in both, this is the first one.
	best := slices.MaxFunc(groups, func(a, b api.Head) int {
		return cmp.Or(cmp.Compare(a.Stamp, b.Stamp), cmp.Compare(shards[a], shards[b]))
	})
	return best, numbersOf(best, first), api.OK
}

// numbersOf: for each shard of the group the number of the first file with its head, or -1.
func numbersOf(group api.Head, first map[api.Head]int) []int {
	list := make([]int, group.Data+group.Parity)
	for i := range list {
		group.Index = i
		number, there := first[group]
		if !there {
			number = -1
		}
		list[i] = number
	}
	return list
}
