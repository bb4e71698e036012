package engine

import (
	"slices"
	"sync"

	"cullet/api"
	"cullet/fcode"
	"cullet/mcode"
	"cullet/trie"
)

// codec is what the codecs of layers 17 and 18 do alike. The calls over a span may go on at one time on one codec; Plan must have its codec for itself.
type codec interface {
	EncodeSpan(shards [][]byte, span api.Span) api.Errno
	VerifySpan(shards [][]byte, span api.Span) (bool, api.Errno)
	UpdateSpan(shards, fresh [][]byte, span api.Span) api.Errno
	Plan(missing []int) (api.Plan, api.Errno)
	Fill(p api.Plan, shards [][]byte, span api.Span) api.Errno
}

// newCodec: by options that are in order.
func newCodec(o api.Options) codec {
	if o.Family == api.Long {
		c, _ := fcode.New(o.Backend, o.Data, o.Parity)
		return c
	}
	c, _ := mcode.New(o.Family, o.Backend, o.Data, o.Parity)
	return c
}

// maker makes a codec at first need.
type maker struct {
	options api.Options
	once    sync.Once
	codec   codec
}

func (m *maker) made() codec {
	m.once.Do(func() { m.codec = newCodec(m.options) })
	return m.codec
}

// kept is what lives from call to call.
type kept struct {
	spans maker // the codec of the calls over spans

	mutex sync.Mutex // guards what stands below
	cache *trie.Trie // the rows of plans, under the numbers of the missing shards; nil of Long
	plans maker      // a codec for Plan alone, so that no plan has to wait for the spans of other calls
}

func newKept(o api.Options) *kept {
	k := &kept{spans: maker{options: o}, plans: maker{options: o}}
	if o.Family != api.Long {
		k.cache, _ = trie.New(o.Cache)
	}
	return k
}

// keys: those of the cache, the last used one first.
func (k *kept) keys() [][]int {
	k.mutex.Lock()
	defer k.mutex.Unlock()
	return k.cache.Recent()
}

// plan: that of these missing shards, one or more; the cache is used by it.
func (k *kept) plan(missing []int) api.Plan {
	k.mutex.Lock()
	defer k.mutex.Unlock()
	return k.planGuarded(missing)
}

// planGuarded is plan for one who holds the mutex.
func (k *kept) planGuarded(missing []int) api.Plan {
	if rows, found := k.cache.Get(missing); found {
		return api.Plan{Missing: missing, Used: firstBeside(k.plans.options.Data, missing), Rows: rows}
	}
	// Enough shards are present, so there is a plan.
	p, _ := k.plans.made().Plan(missing)
	// Of Long there is no cache, and this keeps nothing.
	k.cache.Put(missing, p.Rows)
	return p
}

// firstBeside: the first so many numbers that missing, which is rising, doesn't name.
func firstBeside(count int, missing []int) []int {
	list := make([]int, 0, count)
	for number := 0; len(list) < count; number++ {
		if _, lost := slices.BinarySearch(missing, number); !lost {
			list = append(list, number)
		}
	}
	return list
}
