package mend

import (
	"slices"

	"cullet/api"
	"cullet/polys"
	"cullet/shape"
)

// Find: the shards in which some byte is wrong; nothing is changed. ErrFamily (Long, too), shape.Partial's errors, ErrBeyond.
func Find(f api.Family, k, m int, shards [][]byte) (wrong []int, e api.Errno) {
	turns, e := turnsOf(f, k, m, shards)
	return turned(turns, shards), e
}

// Shards: wrong bytes are mended in their places, empty shards given back in new memory; tells the shards in which some byte was wrong. ErrFamily (Long, too), shape.Partial's errors, ErrBeyond.
func Shards(f api.Family, k, m int, shards [][]byte) (wrong []int, e api.Errno) {
	turns, e := turnsOf(f, k, m, shards)
	wrong = turned(turns, shards)
	for number, turn := range turns {
		if len(shards[number]) == 0 {
			shards[number] = turn
		} else {
			addTo(shards[number], turn)
		}
	}
	return wrong, e
}

// turned: the numbers of the present shards that have a turn.
func turned(turns, shards [][]byte) []int {
	var list []int
	for number, turn := range turns {
		if turn != nil && len(shards[number]) > 0 {
			list = append(list, number)
		}
	}
	return list
}

// addTo adds the turn to the shard. Bytes that are right are not written.
func addTo(shard, turn []byte) {
	for at, difference := range turn {
		if difference != 0 {
			shard[at] ^= difference
		}
	}
}

// turnsOf: for each shard the bytes that must be added to make it the codeword's, an empty one counting as zeros; nil where a present one needs none. All columns are looked at ahead of any change, for a later one may be beyond mending. ErrFamily, shape.Partial's errors, ErrBeyond.
func turnsOf(f api.Family, k, m int, shards [][]byte) ([][]byte, api.Errno) {
	if f != api.Vander && f != api.Cauchy {
		return nil, api.ErrFamily
	}
	length, missing, e := shape.Partial(f, k, m, shards)
	if e != api.OK {
		return nil, e
	}
	s := newSurvey(f, k, m, length, missing)
	for at := range length {
		if !s.column(shards, at) {
			return nil, api.ErrBeyond
		}
	}
	return s.turns, api.OK
}

// survey: what the columns of a shard set are held against, and what has been found.
type survey struct {
	*decoder
	present, missing []int
	scales           []byte // for each shard: its byte times this is the value of a polynomial of a degree below k
	backs            []byte // their inverses
	length           int
	turns            [][]byte // by the shards' numbers; nil till there is one
}

func newSurvey(f api.Family, k, m, length int, missing []int) *survey {
	s := &survey{missing: missing, length: length, turns: make([][]byte, k+m)}
	for number := range k + m {
		if _, lost := slices.BinarySearch(missing, number); !lost {
			s.present = append(s.present, number)
		}
	}
	s.decoder = newDecoder(k, s.present)
	s.scales = scalesOf(s.ring, f, k, m)
	s.backs = inversesOf(s.ring, s.scales)
	return s
}

// scalesOf: of Vander 1; of Cauchy the product of the sums of the shard's number with the numbers of all other data shards.
func scalesOf(ring *polys.Ring[uint8], f api.Family, k, m int) []byte {
	numbers := make([]byte, k+m)
	for number := range numbers {
		numbers[number] = byte(number)
	}
	roots, _ := ring.Vanishing(numbers[:k])
	// At a root the derivative is the product of the sums with the other roots.
	slope := ring.Derivative(roots)
	scales := make([]byte, k+m)
	for i, x := range numbers {
		switch {
		case f == api.Vander:
			scales[i] = 1
		case i < k:
			scales[i] = ring.Eval(slope, x)
		default:
			scales[i] = ring.Eval(roots, x)
		}
	}
	return scales
}

// inversesOf: of elements that are not 0.
func inversesOf(ring *polys.Ring[uint8], list []byte) []byte {
	all := make([]byte, len(list))
	for i, x := range list {
		quotient, _, _ := ring.DivMod([]byte{1}, []byte{x})
		all[i] = quotient[0]
	}
	return all
}

// times: the product of two elements, as the value at b of the polynomial a * X.
func (s *survey) times(a, b byte) byte { return s.ring.Eval([]byte{0, a}, b) }

// column adds to the turns what makes the column at that place a codeword's; false if it can't be mended.
func (s *survey) column(shards [][]byte, at int) bool {
	values := make([]byte, len(s.present))
	for i, number := range s.present {
		values[i] = s.times(s.scales[number], shards[number][at])
	}
	near, found := s.near(values)
	if !found {
		return false
	}
	for i, value := range s.valuesOf(near) {
		if value != values[i] {
			s.turn(s.present[i], at, value^values[i])
		}
	}
	for _, number := range s.missing {
		s.turn(number, at, s.ring.Eval(near, byte(number)))
	}
	return true
}

// turn notes the difference of a polynomial's values, as a difference of the shard's bytes.
func (s *survey) turn(number, at int, difference byte) {
	if s.turns[number] == nil {
		s.turns[number] = make([]byte, s.length)
	}
	s.turns[number][at] = s.times(s.backs[number], difference)
}
