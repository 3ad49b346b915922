package money_test

import (
	"math"
	"math/big"
	"testing"

	"barcarole/api"
	"barcarole/money"
	"barcarole/rational"
)

const (
	most  = api.MaxCents
	heavy = api.MaxWeight
)

// notAmounts are the integers next to the limits, and those that a narrower type or a sum would wrap into them.
var notAmounts = []int{
	most + 1, -most - 1, 2 * most, -2 * most, 1 << 31, -1 << 31, 1 << 32, 1<<32 + 5, -1<<32 - 5, 1 << 62, -1 << 62,
	math.MaxInt, math.MaxInt - 1, math.MinInt, math.MinInt + 1,
}

var notNumbers = []api.Rat{
	{}, {N: 1}, {N: 2, D: 4}, {N: 0, D: 2}, {N: 5, D: 5}, {N: 1, D: -1}, {N: -1, D: -2}, {N: most + 1, D: 1}, {N: -most - 1, D: 1}, {N: 1, D: most + 1},
	{N: math.MinInt, D: 1}, {N: 1, D: math.MinInt}, {N: math.MinInt, D: math.MinInt}, {N: math.MaxInt, D: 1}, {N: 1, D: math.MaxInt},
}

var notCurrencies = []int{-1, 2, 3, 256, 1 << 32, 1<<32 + 1, math.MaxInt, math.MinInt}

// positives are numbers above 0: all with small parts, and those at the limits.
func positives() []api.Rat {
	list := []api.Rat{
		{N: most, D: 1}, {N: 1, D: most}, {N: most - 1, D: 1}, {N: 1, D: most - 1}, {N: most, D: most - 1}, {N: most - 1, D: most},
		{N: most - 1, D: 2}, {N: 2, D: most - 1}, {N: most - 2, D: most - 1}, {N: most, D: 3}, {N: 3, D: most}, {N: 999999937, D: 999999929}, {N: 999999929, D: 999999937},
		{N: 19, D: 20}, {N: 20, D: 19}, {N: 93, D: 100}, {N: 107, D: 100}, {N: 1081, D: 1000}, {N: 50, D: 1}, {N: 1, D: 50}, {N: 100, D: 1}, {N: 1, D: 100},
	}
	for d := 1; d <= 6; d++ {
		for n := 1; n <= 7; n++ {
			if r := (api.Rat{N: n, D: d}); rational.Valid(r) {
				list = append(list, r)
			}
		}
	}
	return list
}

func numbers() []api.Rat {
	list := []api.Rat{{N: 0, D: 1}}
	for _, r := range positives() {
		list = append(list, r, api.Rat{N: -r.N, D: r.D})
	}
	return list
}

// amounts are all small amounts, and some up to the limits.
func amounts() []int {
	list := []int{0}
	for cents := 1; cents <= 25; cents++ {
		list = append(list, cents, -cents)
	}
	for _, cents := range []int{
		49, 50, 51, 99, 100, 101, 150, 999, 1000, 1205, 9999, 10000, 31622, 31623, 123456, 1000000, 46341000,
		most / 7, most / 3, most/3 + 1, most/2 - 1, most / 2, most/2 + 1, most - 50, most - 2, most - 1, most,
	} {
		list = append(list, cents, -cents)
	}
	return list
}

// amountsAround are amounts, with those that a number brings to a limit or near it.
func amountsAround(r api.Rat) []int {
	list := amounts()
	if r.N == 0 {
		return list
	}
	middle := most * r.D / r.N
	for cents := middle - 3; cents <= middle+3; cents++ {
		if -most <= cents && cents <= most {
			list = append(list, cents, -cents)
		}
	}
	return list
}

// exact is cents times r.
func exact(cents int, r api.Rat) *big.Rat {
	return new(big.Rat).Mul(new(big.Rat).SetInt64(int64(cents)), big.NewRat(int64(r.N), int64(r.D)))
}

// inverse is 1 / r of a number above 0.
func inverse(r api.Rat) api.Rat { return api.Rat{N: r.D, D: r.N} }

// rounded is what the document requires of an amount whose exact value is x.
func rounded(x *big.Rat) (int, api.Errno) {
	y := new(big.Rat).Add(new(big.Rat).Abs(x), big.NewRat(1, 2))
	n := new(big.Int).Quo(y.Num(), y.Denom())
	if n.Cmp(big.NewInt(most)) > 0 {
		return 0, api.ErrRange
	}
	return int(n.Int64()) * x.Sign(), api.OK
}

// apart is the absolute value of the difference of an amount and a number.
func apart(cents int, x *big.Rat) *big.Rat {
	difference := new(big.Rat).Sub(x, new(big.Rat).SetInt64(int64(cents)))
	return difference.Abs(difference)
}

func absolute(n int) int {
	if n < 0 {
		return -n
	}
	return n
}

func split(t *testing.T, cents int, weights []int) []int {
	t.Helper()
	parts, e := money.Split(cents, weights)
	if e != api.OK || len(parts) != len(weights) {
		t.Fatalf("Split(%d, %v): %v, %v", cents, weights, parts, e)
	}
	return parts
}

// weightings are lists of weights: all short ones of small weights, those at the limits, and long ones in which
// equal remainders stand between others.
func weightings() [][]int {
	list := [][]int{
		{heavy}, {1, heavy}, {heavy, heavy, heavy}, {heavy, heavy - 1, 1}, {0, heavy, 0, 7, 0}, {7, 11, 13, 17, 19, 23}, {60, 40}, {heavy - 1, heavy, heavy - 2},
		alike(64, 1), alike(64, heavy), alike(63, heavy-1), append(alike(63, 0), 1), append(alike(63, heavy), 1), rising(64, 1), rising(64, heavy/64), rising(40, 3),
		turning(64, 2), turning(64, 5), turning(63, 7), turning(30, 11),
	}
	for a := range 5 {
		for b := range 5 {
			for c := range 5 {
				if a+b+c > 0 {
					list = append(list, []int{a, b, c})
				}
			}
		}
	}
	return list
}

func alike(count, weight int) []int {
	var list []int
	for range count {
		list = append(list, weight)
	}
	return list
}

func rising(count, step int) []int {
	var list []int
	for i := range count {
		list = append(list, i*step)
	}
	return list
}

func turning(count, turn int) []int {
	var list []int
	for i := range count {
		list = append(list, i*3%turn)
	}
	return list
}
