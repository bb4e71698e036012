package engine

import (
	"slices"
	"sync/atomic"

	"cullet/api"
	"cullet/crew"
	"cullet/shape"
)

// work is a call whose arguments have been looked at.
type work struct {
	call    api.Call
	length  int
	missing []int       // the key of the plan that is to be asked for; empty where none is
	wanted  int         // so many of the missing shards, the first ones, are given back
	plan    api.Plan    // of the wanted ones
	full    [][]byte    // the shards, with memory for those that are missing
	wrong   atomic.Bool // some span is no codeword's
}

// look: the work that the call is; nothing is changed by it. The errors of the call.
func look(o api.Options, call api.Call) (*work, api.Errno) {
	w := &work{call: call}
	fault := api.ErrCall
	switch call.Kind {
	case api.CallEncode, api.CallVerify:
		w.length, fault = shape.Whole(o.Family, o.Data, o.Parity, call.Shards)
	case api.CallUpdate:
		w.length, _, fault = shape.Fresh(o.Family, o.Data, o.Parity, call.Shards, call.Fresh)
	case api.CallReconstruct:
		fault = w.lookAtMissing(o, len(call.Shards))
	case api.CallReconstructData:
		fault = w.lookAtMissing(o, o.Data)
	}
	return w, fault
}

// lookAtMissing: the missing shards whose numbers are below end are wanted. shape.Partial's errors.
func (w *work) lookAtMissing(o api.Options, end int) api.Errno {
	length, missing, fault := shape.Partial(o.Family, o.Data, o.Parity, w.call.Shards)
	if fault != api.OK {
		return fault
	}
	w.length = length
	w.wanted, _ = slices.BinarySearch(missing, end)
	if w.wanted > 0 || o.Family != api.Long {
		// Of Vander and Cauchy the cache is used though nothing is given back.
		w.missing = missing
	}
	return api.OK
}

// take makes the work ready by the plan of all missing shards. What is given back comes into a list of the work's own: the caller's list gets it when it is whole.
func (w *work) take(p api.Plan) {
	if w.wanted == 0 {
		return
	}
	w.full = slices.Clone(w.call.Shards)
	for _, number := range p.Missing[:w.wanted] {
		// Each shard is made by itself, for in one array a shard's spare room would be the next shard.
		w.full[number] = make([]byte, w.length)
	}
	if w.wanted < len(p.Missing) {
		// The plan is cut down to the wanted shards, and the others are zeros: of Vander and Cauchy they are not used, of Long they add nothing to the sums. They are only read, so that one memory does for all of them.
		zeros := make([]byte, w.length)
		for _, number := range p.Missing[w.wanted:] {
			w.full[number] = zeros
		}
	}
	w.plan = api.Plan{Missing: p.Missing[:w.wanted], Used: p.Used, Rows: p.Rows[:min(w.wanted, len(p.Rows))], Logs: p.Logs}
}

// spans: those into which the work is cut.
func (w *work) spans(o api.Options) []api.Span {
	align := 1
	if o.Family == api.Long {
		align = 2 // the bytes of a word stay together
	}
	spans, _ := crew.Cut(w.length, o.Stripe, align)
	return spans
}

// within does what is to be done within one span. Several spans may be done at one time.
func (w *work) within(c codec, span api.Span) api.Errno {
	switch w.call.Kind {
	case api.CallEncode:
		return c.EncodeSpan(w.call.Shards, span)
	case api.CallVerify:
		return w.verify(c, span)
	case api.CallUpdate:
		return c.UpdateSpan(w.call.Shards, w.call.Fresh, span)
	}
	if w.wanted == 0 {
		return api.OK
	}
	return c.Fill(w.plan, w.full, span)
}

func (w *work) verify(c codec, span api.Span) api.Errno {
	if w.wrong.Load() {
		// One span is enough for the answer.
		return api.OK
	}
	good, fault := c.VerifySpan(w.call.Shards, span)
	if !good {
		w.wrong.Store(true)
	}
	return fault
}

// finish: the reply, when all spans are done; the shards that are given back are laid into the caller's list.
func (w *work) finish(fault api.Errno) api.Reply {
	if fault != api.OK {
		return api.Reply{Err: fault}
	}
	for _, number := range w.plan.Missing {
		w.call.Shards[number] = w.full[number]
	}
	return api.Reply{Good: w.call.Kind == api.CallVerify && !w.wrong.Load()}
}
