package ring

import (
	"math/bits"
	"strconv"

	"cullet/api"
)

// Text: "x^8+x^4+x^3+x^2+1", "x", "1", "0".
func Text(p uint64) string {
	if p == 0 {
		return "0"
	}
	text := ""
	for i := Degree(p); i >= 0; i-- {
		if p>>i&1 == 0 {
			continue
		}
		if text != "" {
			text += "+"
		}
		text += term(i)
	}
	return text
}

func term(exponent int) string {
	switch exponent {
	case 0:
		return "1"
	case 1:
		return "x"
	}
	return "x^" + strconv.Itoa(exponent)
}

// Parse: the polynomial whose Text this is. ErrText.
func Parse(s string) (uint64, api.Errno) {
	if s == "0" {
		return 0, api.OK
	}
	r := reader{}
	for _, c := range s {
		if !r.take(c) {
			return 0, api.ErrText
		}
	}
	if !r.endTerm() {
		return 0, api.ErrText
	}
	return r.poly, api.OK
}

// The places within a term that a reader can be at.
const (
	atStart  = iota // nothing of it is read
	atOne           // behind "1"
	atX             // behind "x"
	atCaret         // behind "x^"
	atDigits        // behind "x^" and a digit or more
)

// reader reads a text that isn't "0", character by character.
type reader struct {
	poly     uint64 // the terms that have ended
	place    int
	exponent int // the term's, as far as it is read
}

// take reads c; false: no text goes on so.
func (r *reader) take(c rune) bool {
	switch {
	case c == '+':
		return r.endTerm()
	case r.place == atStart && c == '1':
		r.place, r.exponent = atOne, 0
	case r.place == atStart && c == 'x':
		r.place, r.exponent = atX, 1
	case r.place == atX && c == '^':
		r.place, r.exponent = atCaret, 0
	case r.place == atCaret && c >= '1' && c <= '9', r.place == atDigits && c >= '0' && c <= '9':
		r.place, r.exponent = atDigits, 10*r.exponent+int(c-'0')
		return r.exponent <= 63 // at once: a long number must not run over
	default:
		return false
	}
	return true
}

// endTerm puts the term to the others; false: it isn't a whole one, or not below those ahead of it.
func (r *reader) endTerm() bool {
	whole := r.place == atOne || r.place == atX || r.place == atDigits && r.exponent >= 2
	if !whole || r.exponent >= bits.TrailingZeros64(r.poly) {
		return false
	}
	r.poly |= 1 << r.exponent
	r.place = atStart
	return true
}
