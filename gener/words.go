package gener

import (
	"math/bits"

	"cullet/api"
	"cullet/gf16"
)

// tablesFrom: from about so many quotients on, making the field's tables takes less time than they save.
const tablesFrom = 2048

// Words: the k factors of the long family's parity shard j. ErrParams, ErrRange.
func Words(k, m, j int) ([]uint16, api.Errno) {
	if k < 1 || m < 1 || m > api.MaxLong {
		return nil, api.ErrParams
	}
	// The parity's points are the 2^u first ones, of which the last may have no shard.
	u := bits.Len(uint(m - 1))
	if k > api.MaxLong-1<<u {
		return nil, api.ErrParams
	}
	if j < 0 || j >= m {
		return nil, api.ErrRange
	}
	return factors(k, u, j), api.OK
}

// factors: of the data at the points 2^u + i in the value at the point j.
func factors(k, u, j int) []uint16 {
	divide := gf16.Div
	if k >= tablesFrom {
		divide = gf16.New().Div
	}
	at, _ := gf16.Element(j)
	row := make([]uint16, k)
	for i := range row {
		place := 1<<u + i
		point, _ := gf16.Element(place)
		weight, _ := gf16.Element(place >> u)
		row[i], _ = divide(weight, at^point)
	}
	return row
}
