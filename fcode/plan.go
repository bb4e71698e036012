package fcode

import (
	"math/bits"
	"slices"

	"cullet/api"
	"cullet/gener"
	"cullet/shape"
	"cullet/walsh"
)

// Reconstruct: each empty shard is given back, in new memory. ErrNil, shape.Partial's.
func (c *Codec) Reconstruct(shards [][]byte) api.Errno {
	return c.restore(shards, len(shards))
}

// ReconstructData: each empty data shard is given back, in new memory; empty parity shards stay so. ErrNil, shape.Partial's.
func (c *Codec) ReconstructData(shards [][]byte) api.Errno {
	if c == nil {
		return api.ErrNil
	}
	return c.restore(shards, c.k)
}

// Plan: how these missing shards are given back. ErrNil, ErrRow, ErrTooFew.
func (c *Codec) Plan(missing []int) (api.Plan, api.Errno) {
	if c == nil {
		return api.Plan{}, api.ErrNil
	}
	if !rising(missing, c.k+c.m) {
		return api.Plan{}, api.ErrRow
	}
	if len(missing) > c.m {
		return api.Plan{}, api.ErrTooFew
	}
	logs, _ := walsh.Locator(c.lost(missing), bits.TrailingZeros(uint(c.places)))
	return api.Plan{Missing: slices.Clone(missing), Logs: logs}, api.OK
}

// Fill: by a plan, writes the span of each shard that is missing by it; all shards have their length here. ErrNil, shape.Whole's, ErrRange (a place that is odd, too), ErrPlan.
func (c *Codec) Fill(p api.Plan, shards [][]byte, span api.Span) api.Errno {
	if e := c.wholeSpan(shards, span); e != api.OK {
		return e
	}
	if !c.fits(p) {
		return api.ErrPlan
	}
	present, _ := gener.Lost(len(shards), p.Missing)
	c.giveBack(p.Logs, c.parts(shards, present, span), c.parts(shards, p.Missing, span))
	return api.OK
}

// restore gives those of the missing shards back whose numbers are below end. ErrNil, shape.Partial's.
func (c *Codec) restore(shards [][]byte, end int) api.Errno {
	if c == nil {
		return api.ErrNil
	}
	length, missing, e := shape.Partial(api.Long, c.k, c.m, shards)
	if e != api.OK {
		return e
	}
	// The numbers rise, so the wanted ones are the first.
	count, _ := slices.BinarySearch(missing, end)
	wanted := missing[:count]
	if len(wanted) == 0 {
		return api.OK
	}
	// Enough are present, so there is a plan.
	plan, _ := c.Plan(missing)
	present, _ := gener.Lost(len(shards), missing)
	made := make([]part, 0, len(wanted))
	for _, number := range wanted {
		// Each shard is made by itself, for in one array a shard's spare room would be the next shard.
		made = append(made, part{c.place(number), make([]byte, length)})
	}
	c.giveBack(plan.Logs, c.parts(shards, present, api.Span{To: length}), made)
	for i, number := range wanted {
		shards[number] = made[i].bytes
	}
	return api.OK
}

// lost: the places of these missing shards, and those among the parity's that have no shard; rising.
func (c *Codec) lost(missing []int) []int {
	list := make([]int, 0, len(missing)+c.size-c.m)
	data, _ := slices.BinarySearch(missing, c.k)
	for _, number := range missing[data:] {
		list = append(list, c.place(number))
	}
	for place := c.m; place < c.size; place++ {
		list = append(list, place)
	}
	for _, number := range missing[:data] {
		list = append(list, c.place(number))
	}
	return list
}

// fits: is it a plan for shard sets of this codec? Which logarithms it has is not asked.
func (c *Codec) fits(p api.Plan) bool {
	return rising(p.Missing, c.k+c.m) && len(p.Missing) <= c.m && len(p.Logs) == c.places
}

// parts: the span's bytes of the shards of these numbers, with their places.
func (c *Codec) parts(shards [][]byte, numbers []int, span api.Span) []part {
	list := make([]part, 0, len(numbers))
	for _, number := range numbers {
		list = append(list, part{c.place(number), shards[number][span.From:span.To]})
	}
	return list
}

// rising: is each number from 0 to n - 1, and greater than the one before it?
func rising(list []int, n int) bool {
	least := 0
	for _, number := range list {
		if number < least || number >= n {
			return false
		}
		least = number + 1
	}
	return true
}
