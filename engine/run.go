package engine

import (
	"cullet/api"
	"cullet/crew"
	"cullet/sched"
)

// alone makes a call by the engine's own workers.
func (e *Engine) alone(call api.Call) api.Reply {
	if e.isNone() {
		return api.Reply{Err: api.ErrNil}
	}
	w, fault := look(e.options, call)
	if fault != api.OK {
		return api.Reply{Err: fault}
	}
	if len(w.missing) > 0 {
		w.take(e.kept.plan(w.missing))
	}
	return w.finish(e.share(w))
}

// share has the workers do the spans of the work.
func (e *Engine) share(w *work) api.Errno {
	o, c, spans := e.options, e.kept.spans.made(), w.spans(e.options)
	job := func(span api.Span) api.Errno { return w.within(c, span) }
	if o.Scripted {
		_, fault := crew.Scripted(o.Picks, o.Workers, spans, job)
		return fault
	}
	return crew.Free(o.Workers, spans, job)
}

// inCompany makes a call as a task, in turn with others.
func (e *Engine) inCompany(t *sched.Turn, call api.Call) api.Reply {
	w, fault := look(e.options, call)
	if fault != api.OK {
		return api.Reply{Err: fault}
	}
	if len(w.missing) > 0 {
		w.take(e.planInTurn(t, w.missing))
	}
	c := e.kept.spans.made()
	for _, span := range w.spans(e.options) {
		t.Step()
		if fault == api.OK {
			fault = w.within(c, span)
		}
	}
	return w.finish(fault)
}

// planInTurn: the plan of these missing shards, by the cache under the tasks' lock where there is a cache. Together holds the mutex for all tasks.
func (e *Engine) planInTurn(t *sched.Turn, missing []int) api.Plan {
	if e.kept.cache == nil {
		return e.kept.planGuarded(missing)
	}
	t.Lock(0)
	p := e.kept.planGuarded(missing)
	t.Unlock(0)
	return p
}
