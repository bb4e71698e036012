package mcode

import (
	"slices"

	"cullet/api"
	"cullet/gener"
	"cullet/shape"
)

// Reconstruct: each empty shard is given back, in new memory. ErrNil, shape.Partial's.
func (c *Codec) Reconstruct(shards [][]byte) api.Errno {
	return c.restore(shards, len(shards))
}

// ReconstructData: each empty data shard is given back, in new memory; empty parity shards stay so. ErrNil, shape.Partial's.
func (c *Codec) ReconstructData(shards [][]byte) api.Errno {
	if c == nil {
		return api.ErrNil
	}
	return c.restore(shards, c.k)
}

// Plan: how these missing shards are given back. ErrNil, ErrRow, ErrTooFew.
func (c *Codec) Plan(missing []int) (api.Plan, api.Errno) {
	if c == nil {
		return api.Plan{}, api.ErrNil
	}
	// What is lost where the missing ones alone were there: the present ones.
	present, e := gener.Lost(c.k+c.m, missing)
	if e != api.OK {
		return api.Plan{}, e
	}
	if len(missing) > c.m {
		return api.Plan{}, api.ErrTooFew
	}
	return api.Plan{Missing: slices.Clone(missing), Used: present[:c.k], Rows: c.factors(present, missing)}, api.OK
}

// Fill: by a plan, writes the span of each shard that is missing by it; all shards have their length here. ErrNil, shape.Whole's, ErrRange, ErrPlan.
func (c *Codec) Fill(p api.Plan, shards [][]byte, span api.Span) api.Errno {
	if e := c.wholeSpan(shards, span); e != api.OK {
		return e
	}
	if !c.fits(p) {
		return api.ErrPlan
	}
	return c.set.Apply(p.Rows, picked(shards, p.Used), picked(shards, p.Missing), span)
}

// Cached: how many plans the codec keeps.
func (c *Codec) Cached() int {
	if c == nil {
		return 0
	}
	return c.cache.Len()
}

// restore gives those of the missing shards back whose numbers are below end. ErrNil, shape.Partial's.
func (c *Codec) restore(shards [][]byte, end int) api.Errno {
	if c == nil {
		return api.ErrNil
	}
	length, missing, e := shape.Partial(c.family, c.k, c.m, shards)
	if e != api.OK || len(missing) == 0 {
		return e
	}
	// Enough are present, so there is a plan.
	plan, _ := c.Plan(missing)
	// The numbers rise, so the wanted ones are the first.
	wanted, _ := slices.BinarySearch(missing, end)
	made := make([][]byte, wanted)
	for r := range made {
		// Each shard is made by itself, for in one array a shard's spare room would be the next shard.
		made[r] = make([]byte, length)
	}
	c.set.Apply(plan.Rows[:wanted], picked(shards, plan.Used), made, api.Span{To: length})
	for r, shard := range made {
		shards[missing[r]] = shard
	}
	return api.OK
}

// factors: the rows that make the missing shards of the present ones, from the cache where it has them; they are the last used ones of it then. Where none is missing the cache isn't asked.
func (c *Codec) factors(present, missing []int) [][]byte {
	if len(missing) == 0 {
		return nil
	}
	if rows, ok := c.cache.Get(missing); ok {
		return rows
	}
	rows, _ := gener.Decoder(c.family, c.k, c.m, present, missing)
	c.cache.Put(missing, rows)
	return rows
}

// fits: is it a plan for shard sets of this codec? Which factors it has is not asked.
func (c *Codec) fits(p api.Plan) bool {
	if len(p.Used) != c.k || len(p.Rows) != len(p.Missing) {
		return false
	}
	for _, row := range p.Rows {
		if len(row) != c.k {
			return false
		}
	}
	return rising(p.Missing, c.k+c.m) && rising(p.Used, c.k+c.m) && apart(p.Missing, p.Used)
}

// picked: the shards of these numbers.
func picked(shards [][]byte, numbers []int) [][]byte {
	list := make([][]byte, 0, len(numbers))
	for _, i := range numbers {
		list = append(list, shards[i])
	}
	return list
}

// rising: is each number from 0 to n - 1, and greater than the one before it?
func rising(list []int, n int) bool {
	least := 0
	for _, number := range list {
		if number < least || number >= n {
			return false
		}
		least = number + 1
	}
	return true
}

// apart: does no number stand in both of these rising lists?
func apart(a, b []int) bool {
	for len(a) > 0 && len(b) > 0 {
		switch {
		case a[0] < b[0]:
			a = a[1:]
		case a[0] > b[0]:
			b = b[1:]
		default:
			return false
		}
	}
	return true
}
