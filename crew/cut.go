package crew

import "cullet/api"

// stepOf: the length of all spans but the last one.
func stepOf(length, stripe, align int) int {
	step := max(align, stripe/align*align)
	if parts(length, step) > api.MaxSpans {
		step = parts(parts(length, api.MaxSpans), align) * align
	}
	return step
}

// parts: how many parts of a size a length takes, the last one perhaps shorter; without a sum that may be too great for an int.
func parts(n, size int) int { return n/size + min(1, n%size) }

// spansOf: what is left is compared with the step, since the end of a step behind the length may be too great for an int.
func spansOf(length, step int) []api.Span {
	spans := make([]api.Span, 0, parts(length, step))
	for from := 0; from < length; {
		to := from + min(step, length-from)
		spans = append(spans, api.Span{From: from, To: to})
		from = to
	}
	return spans
}
