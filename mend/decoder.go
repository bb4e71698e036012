package mend

import (
	"cullet/api"
	"cullet/polys"
)

// decoder: what all columns at the same points have in common.
type decoder struct {
	ring   *polys.Ring[uint8]
	points []byte // a point list, as elements
	k      int    // polynomials are of a degree below it
	radius int    // so many values may be wrong
	roots  []byte // the polynomial that is 0 at the points, and nowhere else
}

// newDecoder: for k or more points of a point list.
func newDecoder(k int, points []int) *decoder {
	d := &decoder{ring: polys.Over8(), points: elements(points), k: k}
	d.radius, _ = Radius(k, len(points))
	d.roots, _ = d.ring.Vanishing(d.points)
	return d
}

// elements: those of these numbers.
func elements(numbers []int) []byte {
	list := make([]byte, len(numbers))
	for i, number := range numbers {
		list[i] = byte(number)
	}
	return list
}

// through: the polynomial of a degree below the number of points that has these values there.
func (d *decoder) through(values []byte) []byte {
	f, _ := d.ring.Interpolate(d.points, values)
	return f
}

// valuesOf: those of the polynomial at the points.
func (d *decoder) valuesOf(f []byte) []byte {
	values := make([]byte, len(d.points))
	for i, x := range d.points {
		values[i] = d.ring.Eval(f, x)
	}
	return values
}

// near: the polynomial of a degree below k that is near the values; false if there is none.
func (d *decoder) near(values []byte) ([]byte, bool) {
	through := d.through(values)
	if d.ring.Degree(through) < d.k {
		return through, true
	}
	// Euclid's way gives r = v * through modulo roots, r of a degree below the bound and v of one up to the radius.
	// If f is near and w is 0 just where it differs from the values, then w * through = w * f modulo roots, too.
	// So r * w = v * w * f modulo roots; both sides are of a smaller degree than roots, hence equal, and r = v * f.
	// And if r = v * f, then f differs from the values only where v is 0, which is at no more points than the radius.
	bound := len(d.points) - d.radius
	r, _, v, _ := d.ring.Partial(d.roots, through, bound)
	f, rest, e := d.ring.DivMod(r, v)
	if e != api.OK || len(rest) > 0 || d.ring.Degree(f) >= d.k {
		return nil, false
	}
	return f, true
}
