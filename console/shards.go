package console

import (
	"errors"
	"slices"
	"strconv"
	"strings"

	"cullet/api"
	"cullet/pipes"
	"cullet/stream"
)

// split. The engine's errors.
func (c *Console) split(a *arguments) ([]string, api.Errno) {
	shards, fault := c.engine.Split(a.bytes)
	if fault != api.OK {
		return nil, fault
	}
	c.shards, c.size = shards, len(a.bytes)
	return []string{strconv.Itoa(len(shards[0]))}, api.OK
}

func (c *Console) encode(*arguments) ([]string, api.Errno) { return nil, c.engine.Encode(c.shards) }

// encodeStreams. ErrEmpty, stream.Encode's errors.
func (c *Console) encodeStreams(a *arguments) ([]string, api.Errno) {
	isEmpty := func(shard []byte) bool { return len(shard) == 0 }
	if slices.ContainsFunc(c.shards, isEmpty) {
		return nil, api.ErrEmpty
	}
	k := c.dataShards()
	data, parity := make([]*pipes.Source, k), make([]*pipes.Sink, len(c.shards)-k)
	for i := range data {
		data[i] = pipes.NewSource(c.shards[i], api.ReadPlan{Chunks: a.numbers[1:2], FailAt: -1})
	}
	for j := range parity {
		parity[j] = pipes.NewSink(api.WritePlan{FailAt: -1})
	}
	if err := stream.Encode(c.engine, a.numbers[0], data, parity); err != nil {
		return nil, errnoOf(err)
	}
	for j, sink := range parity {
		c.shards[k+j] = sink.Bytes()
	}
	return nil, api.OK
}

// errnoOf: where no source and no sink breaks, a stream's error is always an Errno.
func errnoOf(err error) api.Errno {
	fault := api.ErrPanic
	errors.As(err, &fault)
	return fault
}

func (c *Console) dataShards() int {
	o, _ := c.engine.Options()
	return o.Data
}

func (c *Console) verify(*arguments) ([]string, api.Errno) {
	good, fault := c.engine.Verify(c.shards)
	return []string{strconv.FormatBool(good)}, fault
}

// lose. ErrRange.
func (c *Console) lose(a *arguments) ([]string, api.Errno) {
	if slices.Max(a.numbers) >= len(c.shards) {
		return nil, api.ErrRange
	}
	for _, i := range a.numbers {
		c.shards[i] = nil
	}
	return nil, api.OK
}

// spoil. ErrRange.
func (c *Console) spoil(a *arguments) ([]string, api.Errno) {
	i, at := a.numbers[0], a.numbers[1]
	if i >= len(c.shards) || at >= len(c.shards[i]) {
		return nil, api.ErrRange
	}
	c.shards[i][at] ^= a.bytes[0]
	return nil, api.OK
}

func (c *Console) repair(*arguments) ([]string, api.Errno) {
	return nil, c.engine.Reconstruct(c.shards)
}

func (c *Console) repairData(*arguments) ([]string, api.Errno) {
	return nil, c.engine.ReconstructData(c.shards)
}

func (c *Console) correct(*arguments) ([]string, api.Errno) {
	wrong, fault := c.engine.Correct(c.shards)
	return textsOf(wrong), fault
}

// update. ErrRange, the engine's errors.
func (c *Console) update(a *arguments) ([]string, api.Errno) {
	i, k := a.numbers[0], c.dataShards()
	if i >= k {
		return nil, api.ErrRange
	}
	fresh := make([][]byte, k)
	fresh[i] = a.bytes
	if fault := c.engine.Update(c.shards, fresh); fault != api.OK {
		return nil, fault
	}
	// No bytes are no fresh shard.
	if len(a.bytes) > 0 {
		c.shards[i] = a.bytes
	}
	return nil, api.OK
}

func (c *Console) join(*arguments) ([]string, api.Errno) {
	data, fault := c.engine.Join(c.shards, c.size)
	return []string{textOf(data)}, fault
}

// show. ErrRange.
func (c *Console) show(a *arguments) ([]string, api.Errno) {
	i := a.numbers[0]
	if i >= len(c.shards) {
		return nil, api.ErrRange
	}
	return []string{textOf(c.shards[i])}, api.OK
}

func (c *Console) cached(*arguments) ([]string, api.Errno) {
	var keys []string
	for _, key := range c.engine.Cached() {
		keys = append(keys, strings.Join(textsOf(key), ","))
	}
	return keys, api.OK
}
