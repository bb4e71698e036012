package stream

import (
	"cullet/api"
	"cullet/pipes"
)

// rounds reads sources side by side, a block of each at a time.
type rounds struct {
	block   int
	sources []*pipes.Source // nil: this shard isn't read
	blocks  [][]byte        // memory for what is read, the same in each round
	begun   bool
	ended   bool
}

func newRounds(block int, sources []*pipes.Source) *rounds {
	r := &rounds{block: block, sources: sources, blocks: make([][]byte, len(sources))}
	for i, source := range sources {
		if source != nil {
			r.blocks[i] = make([]byte, block)
		}
	}
	return r
}

// next: what a further round gives of each source, all of one length, and nothing of the shards that aren't read; no list where the rounds are over. The bytes stay till the round behind it. A source's error, ErrEmpty (nothing in the first round), ErrUneven; ErrOdd is left to the engine's calls.
func (r *rounds) next() ([][]byte, error) {
	if r.ended {
		return nil, nil
	}
	shards := make([][]byte, len(r.sources))
	least, most := r.block, 0
	for i, source := range r.sources {
		if source == nil {
			continue
		}
		n, err := read(source, r.blocks[i])
		if err != nil {
			return nil, err
		}
		shards[i] = r.blocks[i][:n]
		least, most = min(least, n), max(most, n)
	}
	isFirst := !r.begun
	r.begun, r.ended = true, most < r.block
	switch {
	case most == 0 && isFirst:
		return nil, api.ErrEmpty
	case most == 0:
		return nil, nil
	case least < most:
		return nil, api.ErrUneven
	}
	return shards, nil
}
