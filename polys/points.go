package polys

import (
	"slices"

	"cullet/api"
)

// Eval: the value of f at x.
func (r *Ring[E]) Eval(f []E, x E) E {
	if r.lacking() {
		return 0
	}
	value := E(0)
	for i := len(f) - 1; i >= 0; i-- {
		value = r.product(value, x) ^ f[i]
	}
	return value
}

// Vanishing: the product of all (x - point). ErrNil, ErrSize.
func (r *Ring[E]) Vanishing(points []E) ([]E, api.Errno) {
	if e := r.unfit(points, nil); e != api.OK {
		return nil, e
	}
	f := make([]E, len(points)+1)
	f[0] = 1
	for i, x := range points {
		r.widen(f[:i+2], x)
	}
	return f, api.OK
}

// widen multiplies f by X + x in its own place. The last element of f is 0: room for the degree to grow.
func (r *Ring[E]) widen(f []E, x E) {
	for i := len(f) - 1; i > 0; i-- {
		f[i] = f[i-1] ^ r.product(f[i], x)
	}
	f[0] = r.product(f[0], x)
}

// Interpolate: the polynomial of a degree below the number of points that has these values there. ErrNil, ErrSize, ErrLens, ErrTwice.
func (r *Ring[E]) Interpolate(points, values []E) ([]E, api.Errno) {
	if e := r.unfit(points, values); e != api.OK {
		return nil, e
	}
	if len(points) != len(values) {
		return nil, api.ErrLens
	}
	if repeats(points) {
		return nil, api.ErrTwice
	}
	differences := r.newton(points, values)
	f := make([]E, len(points))
	for i := len(points) - 1; i >= 0; i-- { // d0 + (X + x0)(d1 + (X + x1)(d2 + ..)), from the inside out
		r.widen(f[:len(points)-i], points[i])
		f[0] ^= differences[i]
	}
	return trimmed(f), api.OK
}

// repeats: an element stands twice in points.
func repeats[E uint8 | uint16](points []E) bool {
	sorted := copied(points)
	slices.Sort(sorted)
	for i := 1; i < len(sorted); i++ {
		if sorted[i] == sorted[i-1] {
			return true
		}
	}
	return false
}

// newton: the divided differences of the values at points of which none stands twice, so that each difference of two points has an inverse.
func (r *Ring[E]) newton(points, values []E) []E {
	list := copied(values)
	for gap := 1; gap < len(list); gap++ {
		for i := len(list) - 1; i >= gap; i-- {
			inverse, _ := r.inverse(points[i] ^ points[i-gap])
			list[i] = r.product(list[i]^list[i-1], inverse)
		}
	}
	return list
}
