package polys

import "cullet/api"

// DivMod: quotient and remainder of f by g. ErrNil, ErrSize, ErrZeroPoly.
func (r *Ring[E]) DivMod(f, g []E) (q, m []E, e api.Errno) {
	if e = r.unfit(f, g); e != api.OK {
		return nil, nil, e
	}
	f, g = trimmed(f), trimmed(g)
	if len(g) == 0 {
		return nil, nil, api.ErrZeroPoly
	}
	q, m = r.divide(f, g)
	return q, m, api.OK
}

// divide: long division of trimmed lists, g not empty. Quotient and remainder are trimmed and new memory.
func (r *Ring[E]) divide(f, g []E) (q, m []E) {
	m = copied(f)
	if len(f) < len(g) {
		return nil, m
	}
	top := len(g) - 1
	inverse, _ := r.inverse(g[top])
	q = make([]E, len(f)-top)
	for i := len(q) - 1; i >= 0; i-- {
		q[i] = r.product(m[i+top], inverse)
		r.addTimes(m[i:], q[i], g)
	}
	return q, trimmed(m)
}

// Gcd: the greatest common divisor, with 1 as its highest coefficient; none of two zero polynomials. ErrNil, ErrSize.
func (r *Ring[E]) Gcd(f, g []E) ([]E, api.Errno) {
	if e := r.unfit(f, g); e != api.OK {
		return nil, e
	}
	f, g = trimmed(f), trimmed(g)
	for len(g) > 0 {
		_, m := r.divide(f, g)
		f, g = g, m
	}
	return r.monic(f), api.OK
}

// monic: trimmed f by its highest coefficient, in new memory.
func (r *Ring[E]) monic(f []E) []E {
	if len(f) == 0 {
		return nil
	}
	inverse, _ := r.inverse(f[len(f)-1])
	return r.times([]E{inverse}, f)
}

// link: one of Euclid's remainders with its factors, all trimmed.
type link[E uint8 | uint16] struct {
	m, u, v []E
}

// Partial: the first remainder of a degree below d in Euclid's sequence that begins with f and g, and its factors: m = u*f + v*g. ErrNil, ErrSize, ErrRange (d below 0).
func (r *Ring[E]) Partial(f, g []E, d int) (m, u, v []E, e api.Errno) {
	if e = r.unfit(f, g); e != api.OK {
		return nil, nil, nil, e
	}
	if d < 0 {
		return nil, nil, nil, api.ErrRange
	}
	a := link[E]{m: copied(trimmed(f)), u: []E{1}}
	b := link[E]{m: copied(trimmed(g)), v: []E{1}}
	if degree(a.m) < d {
		return a.m, a.u, a.v, api.OK
	}
	for degree(b.m) >= d { // d is not negative, so that b.m is not 0 in here
		a, b = b, r.behind(a, b)
	}
	return b.m, b.u, b.v, api.OK
}

// behind: the link that comes behind a and b, b's remainder not 0.
func (r *Ring[E]) behind(a, b link[E]) link[E] {
	q, m := r.divide(a.m, b.m)
	return link[E]{m: m, u: sum(a.u, r.times(q, b.u)), v: sum(a.v, r.times(q, b.v))}
}
