package fcode

import "cullet/api"

// part: bytes of a shard, the words of a span, and the place at which the shard stands. The parts of one call have all one length.
type part struct {
	place int
	bytes []byte
}

// cut: the span's bytes of each shard, in their places.
func cut(shards [][]byte, span api.Span) [][]byte {
	list := make([][]byte, 0, len(shards))
	for _, shard := range shards {
		list = append(list, shard[span.From:span.To])
	}
	return list
}

// cutParts: the span's bytes of each part.
func cutParts(parts []part, span api.Span) []part {
	list := make([]part, 0, len(parts))
	for _, p := range parts {
		list = append(list, part{p.place, p.bytes[span.From:span.To]})
	}
	return list
}

// difference: the sum of two lists of one length, in memory of its own.
func difference(a, b []byte) []byte {
	list := make([]byte, len(a))
	for at := range list {
		list[at] = a[at] ^ b[at]
	}
	return list
}
