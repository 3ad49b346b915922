package rational_test

import (
	"math"
	"math/big"
	"testing"

	"barcarole/api"
	"barcarole/rational"
)

const most = api.MaxRat

type operation func(a, b api.Rat) (api.Rat, api.Errno)

var zero = api.Rat{N: 0, D: 1}

// notNumbers are the ways in which an api.Rat can fail to be a number.
var notNumbers = []api.Rat{
	{N: 0, D: 0}, {N: 1, D: 0}, {N: 0, D: 2}, {N: 0, D: -1}, {N: 0, D: most},
	{N: 2, D: 4}, {N: -6, D: 4}, {N: 5, D: 5}, {N: -5, D: 5}, {N: most, D: 2}, {N: most, D: most},
	{N: 1, D: -1}, {N: 1, D: -2}, {N: -1, D: -2}, {N: 3, D: -most},
	{N: most + 1, D: 1}, {N: -most - 1, D: 1}, {N: most + 1, D: 7}, {N: 1, D: most + 1}, {N: -1, D: most + 1},
	{N: math.MinInt, D: 1}, {N: 1, D: math.MinInt}, {N: math.MinInt, D: math.MinInt}, {N: math.MinInt, D: 0},
	{N: math.MaxInt, D: 1}, {N: 1, D: math.MaxInt}, {N: math.MaxInt, D: math.MinInt}, {N: math.MinInt, D: math.MaxInt},
}

// numbers are all with small parts, and those where a limit, a rounding or a
// reduction is near.
func numbers() []api.Rat {
	var list []api.Rat
	for d := 1; d <= 4; d++ {
		for n := -4; n <= 4; n++ {
			if coprime(n, d) {
				list = append(list, api.Rat{N: n, D: d})
			}
		}
	}
	for _, r := range []api.Rat{
		{N: most, D: 1}, {N: most - 1, D: 1}, {N: most / 2, D: 1}, {N: most/2 + 1, D: 1},
		{N: 1, D: most}, {N: 1, D: most - 1}, {N: 2, D: most - 1}, {N: 1, D: most / 2},
		{N: most, D: most - 1}, {N: most - 1, D: most}, {N: most - 2, D: most - 1}, {N: most - 3, D: most},
		{N: most, D: 3}, {N: 3, D: most}, {N: most, D: 7}, {N: 7, D: most},
		{N: 31622, D: 1}, {N: 31623, D: 1}, {N: 1, D: 31622}, {N: 1, D: 31623}, {N: 31622, D: 31623},
		{N: 999999937, D: 999999929}, {N: 999999929, D: 999999937},
	} {
		list = append(list, r, api.Rat{N: -r.N, D: r.D})
	}
	return list
}

func coprime(n, d int) bool {
	x, y := new(big.Int).Abs(big.NewInt(int64(n))), big.NewInt(int64(d))
	return new(big.Int).GCD(nil, nil, x, y).Cmp(big.NewInt(1)) == 0
}

func value(r api.Rat) *big.Rat {
	return new(big.Rat).SetFrac64(int64(r.N), int64(r.D))
}

// number is what the document requires of a function whose result has the value x.
func number(x *big.Rat) (api.Rat, api.Errno) {
	limit := big.NewInt(most)
	if x.Num().CmpAbs(limit) > 0 || x.Denom().CmpAbs(limit) > 0 {
		return api.Rat{}, api.ErrRange
	}
	return api.Rat{N: int(x.Num().Int64()), D: int(x.Denom().Int64())}, api.OK
}

// compare returns the order of two numbers, which must have one.
func compare(t *testing.T, a, b api.Rat) int {
	t.Helper()
	order, e := rational.Cmp(a, b)
	if e != api.OK {
		t.Fatalf("Cmp(%v, %v): %v", a, b, e)
	}
	return order
}

// all reports whether all calls led to numbers.
func all(errors ...api.Errno) bool {
	for _, e := range errors {
		if e != api.OK {
			return false
		}
	}
	return true
}
