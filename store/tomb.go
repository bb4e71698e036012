package store

import (
	"bytes"

	"cullet/frame"
)

const (
	tombMark = "TOMB"
	tombLen  = 16
)

// tomb: the file that says that the object is gone.
func tomb(stamp uint64) []byte {
	file := appendNumber([]byte(tombMark), stamp, 8)
	return appendNumber(file, uint64(frame.Sum(file)), 4)
}

// tombs: one for each shard's place, each in memory of its own.
func (s *Store) tombs(stamp uint64) [][]byte {
	files := make([][]byte, s.count())
	for i := range files {
		files[i] = tomb(stamp)
	}
	return files
}

// tombStamp: that of a tomb; false of other files.
func tombStamp(file []byte) (uint64, bool) {
	if len(file) != tombLen {
		return 0, false
	}
	var stamp uint64
	for i, value := range file[4:12] {
		stamp |= uint64(value) << (8 * i)
	}
	return stamp, bytes.Equal(file, tomb(stamp))
}

// appendNumber: so many bytes of the number, the lowest first.
func appendNumber(file []byte, n uint64, size int) []byte {
	for i := range size {
		file = append(file, byte(n>>(8*i)))
	}
	return file
}
