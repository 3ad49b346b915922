package vector_test

import (
	"math"
	"math/big"
	"math/rand/v2"
	"slices"
	"testing"

	"barcarole/api"
	"barcarole/vector"
)

// The limits, written out: a test that took these from the program would follow its mistakes.
const (
	most        = 2000
	mostOfShare = 10000
)

var zero api.Vec

// beyond are integers that are no coordinates: next to the limits, and those that a narrower type or a product would
// wrap into one.
var beyond = []int{most + 1, -most - 1, most + 2, 2 * most, -2 * most, 1 << 16, 1<<16 + 5, -1 << 16, 1 << 31, -1 << 31, 1<<31 - 1, 1 << 32, 1<<32 + 1, 7 - 1<<32, 1 << 61, 1 << 62, 3 << 61, -1 << 62, math.MaxInt, math.MaxInt - 1, math.MinInt, math.MinInt + 1, math.MinInt + 3}

// cube has the vectors with the coordinates -c, 0 and c.
func cube(c int) []api.Vec {
	var list []api.Vec
	for _, x := range []int{-c, 0, c} {
		for _, y := range []int{-c, 0, c} {
			for _, z := range []int{-c, 0, c} {
				list = append(list, api.Vec{X: x, Y: y, Z: z})
			}
		}
	}
	return list
}

// vectors are short ones, those at the limits, those whose sums are just in range or just out of it, and others.
func vectors() []api.Vec {
	list := []api.Vec{zero}
	for _, c := range []int{1, most / 2, most, most - 1} {
		for _, v := range cube(c) {
			if v != zero {
				list = append(list, v)
			}
		}
	}
	random := rand.New(rand.NewPCG(7, 1))
	for i := range 60 {
		size := []int{2, 3, 10, 100, 1001, most}[i%6]
		any := func() int { return random.IntN(2*size+1) - size }
		list = append(list, api.Vec{X: any(), Y: any(), Z: any()})
	}
	return append(list, api.Vec{X: 1, Y: 2, Z: 3}, api.Vec{X: most/2 + 1, Y: most / 2, Z: -most/2 - 1}, api.Vec{X: 3, Y: 4}, api.Vec{X: 1200, Z: -1600})
}

// directions are the vectors but the one with only zeros.
func directions() []api.Vec {
	return slices.DeleteFunc(vectors(), func(v api.Vec) bool { return v == zero })
}

// notVectors have one coordinate, or all, beyond the limits.
func notVectors() []api.Vec {
	var list []api.Vec
	for _, n := range beyond {
		list = append(list, api.Vec{X: n}, api.Vec{Y: n}, api.Vec{Z: n}, api.Vec{X: n, Y: n, Z: n}, api.Vec{X: n, Y: -most, Z: most}, api.Vec{X: 1, Y: 2, Z: n})
	}
	return list
}

// points are all near (0, 0) and at the limits, and others.
func points() []api.Point {
	var list []api.Point
	for x := -1; x <= 1; x++ {
		for y := -1; y <= 1; y++ {
			list = append(list, api.Point{X: x, Y: y}, api.Point{X: x * most, Y: y * most}, api.Point{X: x * 7, Y: y * 3})
		}
	}
	random := rand.New(rand.NewPCG(7, 2))
	for i := range 12 {
		size := []int{5, 100, most}[i%3]
		list = append(list, api.Point{X: random.IntN(2*size+1) - size, Y: random.IntN(2*size+1) - size})
	}
	slices.SortFunc(list, func(p, q api.Point) int { return slices.Compare([]int{p.X, p.Y}, []int{q.X, q.Y}) })
	return slices.Compact(list)
}

// square has the points with the coordinates from -size to size, times a factor.
func square(size, by int) []api.Point {
	var list []api.Point
	for x := -size; x <= size; x++ {
		for y := -size; y <= size; y++ {
			list = append(list, api.Point{X: x * by, Y: y * by})
		}
	}
	return list
}

// notPoints have one coordinate, or both, beyond the limits.
func notPoints() []api.Point {
	var list []api.Point
	for _, n := range beyond {
		list = append(list, api.Point{X: n}, api.Point{Y: n}, api.Point{X: n, Y: n}, api.Point{X: n, Y: -most}, api.Point{X: most, Y: n})
	}
	return list
}

// shares are 0, 1, those next to them, and others, in their order.
func shares() []api.Rat {
	list := []api.Rat{
		{N: 0, D: 1}, {N: 1, D: 1}, {N: 1, D: 2}, {N: 1, D: mostOfShare}, {N: 1, D: mostOfShare - 1}, {N: mostOfShare - 1, D: mostOfShare}, {N: mostOfShare - 2, D: mostOfShare - 1},
		{N: 4999, D: mostOfShare}, {N: 5001, D: mostOfShare}, {N: 4999, D: 9999}, {N: 51, D: 100}, {N: 49, D: 100}, {N: 3333, D: mostOfShare}, {N: 3333, D: 9998},
	}
	for d := 3; d <= 9; d++ {
		for n := 1; n < d; n++ {
			if common(n, d) == 1 {
				list = append(list, api.Rat{N: n, D: d})
			}
		}
	}
	slices.SortFunc(list, func(r, s api.Rat) int { return r.N*s.D - s.N*r.D })
	return list
}

// notShares are no numbers, or below 0, above 1, or with a denominator above 10000.
var notShares = []api.Rat{
	{}, {N: 1}, {N: -1}, {N: 0, D: 2}, {N: 0, D: mostOfShare}, {N: 2, D: 4}, {N: 2, D: 2}, {N: mostOfShare, D: mostOfShare}, {N: 5000, D: mostOfShare},
	{N: 1, D: -1}, {N: -1, D: -1}, {N: -1, D: -2}, {N: 0, D: -1}, {N: 1, D: -2}, {N: 1, D: -mostOfShare},
	{N: -1, D: 1}, {N: -1, D: 2}, {N: -1, D: mostOfShare}, {N: 1 - mostOfShare, D: mostOfShare}, {N: -mostOfShare, D: 1}, {N: -3, D: 2}, {N: -1, D: api.MaxRat},
	{N: 2, D: 1}, {N: 3, D: 2}, {N: mostOfShare, D: mostOfShare - 1}, {N: mostOfShare, D: 1}, {N: mostOfShare + 1, D: mostOfShare}, {N: mostOfShare + 1, D: 1}, {N: api.MaxRat, D: 1},
	{N: 1, D: mostOfShare + 1}, {N: mostOfShare, D: mostOfShare + 1}, {N: 5000, D: mostOfShare + 1}, {N: mostOfShare + 1, D: mostOfShare + 2}, {N: 1, D: api.MaxRat}, {N: api.MaxRat - 1, D: api.MaxRat}, {N: 1, D: api.MaxRat + 1},
	{N: 1, D: 1<<32 + 1}, {N: 1<<32 + 1, D: 1<<32 + 2}, {N: 1 << 32, D: 1}, {N: 1, D: 1 << 62}, {N: math.MinInt, D: 1}, {N: math.MinInt, D: math.MinInt}, {N: 0, D: math.MinInt}, {N: math.MaxInt, D: math.MaxInt}, {N: 1, D: math.MinInt}, {N: math.MinInt},
}

func common(a, b int) int {
	for b != 0 {
		a, b = b, a%b
	}
	return a
}

func wide(n int) *big.Int { return big.NewInt(int64(n)) }

func wideProduct(list ...int) *big.Int {
	p := wide(1)
	for _, n := range list {
		p.Mul(p, wide(n))
	}
	return p
}

// scalar is a scalar product.
func scalar(a, b api.Vec) int {
	sum := wideProduct(a.X, b.X)
	sum.Add(sum, wideProduct(a.Y, b.Y))
	sum.Add(sum, wideProduct(a.Z, b.Z))
	return int(sum.Int64())
}

// area is what Turn returns the sign of.
func area(a, b, c api.Point) int {
	left := new(big.Int).Mul(wide(b.X-a.X), wide(c.Y-a.Y))
	right := new(big.Int).Mul(wide(b.Y-a.Y), wide(c.X-a.X))
	return int(left.Sub(left, right).Int64())
}

// isNear is what the document requires of Near.
func isNear(a, b api.Vec, r api.Rat) bool {
	s := scalar(a, b)
	return s > 0 && wideProduct(s, s, r.D).Cmp(wideProduct(r.N, scalar(a, a), scalar(b, b))) >= 0
}

// isParallel reports whether all three differences of products of two coordinates are 0.
func isParallel(a, b api.Vec) bool {
	return a.X*b.Y == a.Y*b.X && a.Y*b.Z == a.Z*b.Y && a.Z*b.X == a.X*b.Z
}

// isVector reports whether a vector is valid.
func isVector(v api.Vec) bool {
	return max(v.X, v.Y, v.Z) <= most && min(v.X, v.Y, v.Z) >= -most
}

// bounds are the greatest share that an angle is near at, and the next one, if 1 is not the greatest; an angle of at
// least 90 degrees is not near at any.
func bounds(a, b api.Vec) (low, next api.Rat) {
	top, bottom := scalar(a, b)*scalar(a, b), scalar(a, a)*scalar(b, b)
	low, next = api.Rat{N: 0, D: 1}, api.Rat{N: 1, D: 1}
	for d := 1; d <= mostOfShare; d++ {
		n := top * d / bottom
		if n*low.D > low.N*d {
			low = api.Rat{N: n, D: d}
		}
		if (n+1)*next.D < next.N*d {
			next = api.Rat{N: n + 1, D: d}
		}
	}
	return low, next
}

func dot(t *testing.T, a, b api.Vec) int {
	t.Helper()
	s, e := vector.Dot(a, b)
	if e != api.OK {
		t.Fatalf("Dot(%v, %v): %v", a, b, e)
	}
	return s
}

func turn(t *testing.T, a, b, c api.Point) int {
	t.Helper()
	s, e := vector.Turn(a, b, c)
	if e != api.OK {
		t.Fatalf("Turn(%v, %v, %v): %v", a, b, c, e)
	}
	return s
}

func near(t *testing.T, a, b api.Vec, r api.Rat) bool {
	t.Helper()
	is, e := vector.Near(a, b, r)
	if e != api.OK {
		t.Fatalf("Near(%v, %v, %v): %v", a, b, r, e)
	}
	return is
}

// checkNear finds whether the answer for a share is the one wanted, and the one that the document requires.
func checkNear(t *testing.T, a, b api.Vec, r api.Rat, want bool) {
	t.Helper()
	if got := near(t, a, b, r); got != want || isNear(a, b, r) != want {
		t.Errorf("Near(%v, %v, %v): %v; want %v", a, b, r, got, want)
	}
}
