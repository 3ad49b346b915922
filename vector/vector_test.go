package vector_test

import (
	"math"
	"math/rand/v2"
	"testing"

	"barcarole/api"
	"barcarole/vector"
)

// P7.1, G1: each coordinate at the limits and one beyond.
func TestValid(t *testing.T) {
	for _, n := range []int{-most, 1 - most, -1, 0, 1, most - 1, most} {
		for _, v := range []api.Vec{{X: n}, {Y: n}, {Z: n}, {X: n, Y: n, Z: n}, {X: n, Y: most, Z: -most}, {X: most, Y: -most, Z: n}} {
			if !vector.Valid(v) {
				t.Errorf("Valid(%v) is false", v)
			}
		}
	}
	for _, v := range append(vectors(), cube(most)...) {
		if !vector.Valid(v) {
			t.Errorf("Valid(%v) is false", v)
		}
	}
	for _, v := range notVectors() {
		if vector.Valid(v) {
			t.Errorf("Valid(%v) is true", v)
		}
	}
}

// P7.1, G2: the examples, and sums and differences that are just in range and just out of it.
func TestSumCases(t *testing.T) {
	for _, c := range []struct {
		call       func(a, b api.Vec) (api.Vec, api.Errno)
		a, b, want api.Vec
		e          api.Errno
	}{
		{vector.Add, api.Vec{X: 1, Y: 2, Z: 3}, api.Vec{X: 4, Y: -2, Z: 0}, api.Vec{X: 5, Y: 0, Z: 3}, api.OK},
		{vector.Add, api.Vec{X: 2000}, api.Vec{X: 1}, zero, api.ErrRange},
		{vector.Add, api.Vec{X: 1999}, api.Vec{X: 1}, api.Vec{X: 2000}, api.OK},
		{vector.Add, api.Vec{Y: -1999}, api.Vec{Y: -1}, api.Vec{Y: -2000}, api.OK},
		{vector.Add, api.Vec{Y: -2000}, api.Vec{Y: -1}, zero, api.ErrRange},
		{vector.Add, api.Vec{X: 5, Y: 5, Z: 1001}, api.Vec{X: 5, Y: 5, Z: 1000}, zero, api.ErrRange},
		{vector.Add, api.Vec{X: 2000, Y: -2000, Z: 2000}, api.Vec{X: -2000, Y: 2000, Z: -2000}, zero, api.OK},
		{vector.Add, api.Vec{X: 2000, Y: 2000, Z: 2000}, api.Vec{X: 2000, Y: 2000, Z: 2000}, zero, api.ErrRange},
		{vector.Sub, api.Vec{X: 1, Y: 2, Z: 3}, api.Vec{X: 4, Y: -2, Z: 0}, api.Vec{X: -3, Y: 4, Z: 3}, api.OK},
		{vector.Sub, api.Vec{X: 2000}, api.Vec{X: -1}, zero, api.ErrRange},
		{vector.Sub, api.Vec{X: 1999}, api.Vec{X: -1}, api.Vec{X: 2000}, api.OK},
		{vector.Sub, api.Vec{Z: -1000}, api.Vec{Z: 1000}, api.Vec{Z: -2000}, api.OK},
		{vector.Sub, api.Vec{Z: -1000}, api.Vec{Z: 1001}, zero, api.ErrRange},
		{vector.Sub, api.Vec{X: 1, Y: 1001, Z: 1}, api.Vec{X: 1, Y: -1000, Z: 1}, zero, api.ErrRange},
		{vector.Sub, api.Vec{X: 2000, Y: -2000, Z: 2000}, api.Vec{X: 2000, Y: -2000, Z: 2000}, zero, api.OK},
		{vector.Sub, api.Vec{X: 2000, Y: 2000, Z: 2000}, api.Vec{X: -2000, Y: -2000, Z: -2000}, zero, api.ErrRange},
	} {
		if v, e := c.call(c.a, c.b); v != c.want || e != c.e {
			t.Errorf("%v and %v: %v, %v; want %v, %v", c.a, c.b, v, e, c.want, c.e)
		}
	}
}

func checkSum(t *testing.T, name string, a, b, got api.Vec, e api.Errno, want api.Vec) {
	t.Helper()
	wrong := api.OK
	if !isVector(want) {
		want, wrong = zero, api.ErrRange
	}
	if got != want || e != wrong {
		t.Errorf("%s(%v, %v): %v, %v; want %v, %v", name, a, b, got, e, want, wrong)
	}
}

// P7.1, G2.
func TestSumsAndDifferences(t *testing.T) {
	for _, a := range vectors() {
		for _, b := range vectors() {
			sum, e := vector.Add(a, b)
			checkSum(t, "Add", a, b, sum, e, api.Vec{X: a.X + b.X, Y: a.Y + b.Y, Z: a.Z + b.Z})
			difference, f := vector.Sub(a, b)
			checkSum(t, "Sub", a, b, difference, f, api.Vec{X: a.X - b.X, Y: a.Y - b.Y, Z: a.Z - b.Z})
		}
	}
}

// P7.1, G2 and G3: vectors that are not valid, on either side, also where the result would be a vector or out of range.
func TestErrorsOfTwo(t *testing.T) {
	check := func(a, b api.Vec) {
		if v, e := vector.Add(a, b); v != zero || e != api.ErrArg {
			t.Errorf("Add(%v, %v): %v, %v", a, b, v, e)
		}
		if v, e := vector.Sub(a, b); v != zero || e != api.ErrArg {
			t.Errorf("Sub(%v, %v): %v, %v", a, b, v, e)
		}
		if s, e := vector.Dot(a, b); s != 0 || e != api.ErrArg {
			t.Errorf("Dot(%v, %v): %d, %v", a, b, s, e)
		}
	}
	for _, bad := range notVectors() {
		for _, v := range append(vectors(), bad, api.Vec{X: -bad.X, Y: -bad.Y, Z: -bad.Z}) {
			check(bad, v)
			check(v, bad)
		}
	}
}

// P7.1, G3: the example, and the greatest products.
func TestDotCases(t *testing.T) {
	for _, c := range []struct {
		a, b api.Vec
		want int
	}{
		{api.Vec{X: 1, Y: 2, Z: 3}, api.Vec{X: 4, Y: -5, Z: 6}, 12},
		{zero, zero, 0}, {zero, api.Vec{X: most, Y: most, Z: most}, 0},
		{api.Vec{X: 1}, api.Vec{Y: 1}, 0}, {api.Vec{X: 3, Y: 4}, api.Vec{X: -4, Y: 3, Z: 9}, 0}, {api.Vec{X: 2, Y: 3, Z: 5}, api.Vec{X: 7, Y: 11, Z: 13}, 112},
		{api.Vec{X: most, Y: most, Z: most}, api.Vec{X: most, Y: most, Z: most}, 12000000},
		{api.Vec{X: most, Y: -most, Z: most}, api.Vec{X: -most, Y: most, Z: -most}, -12000000},
		{api.Vec{X: most, Y: most, Z: most}, api.Vec{X: most, Y: -most, Z: 1}, 2000},
		{api.Vec{X: -most, Y: -most, Z: -most}, api.Vec{X: most - 1, Y: most, Z: most}, -11998000},
	} {
		if got, e := vector.Dot(c.a, c.b); got != c.want || e != api.OK {
			t.Errorf("Dot(%v, %v): %d, %v; want %d", c.a, c.b, got, e, c.want)
		}
	}
}

// P7.1, G3.
func TestDot(t *testing.T) {
	for _, a := range vectors() {
		for _, b := range vectors() {
			if got, want := dot(t, a, b), scalar(a, b); got != want {
				t.Errorf("Dot(%v, %v): %d; want %d", a, b, got, want)
			}
		}
	}
}

// P7.1, G4: the examples, points that are equal, on one line, and as far apart as can be, and turns that are hardly ones.
func TestTurnCases(t *testing.T) {
	for _, c := range []struct {
		a, b, c api.Point
		want    int
	}{
		{api.Point{}, api.Point{X: 4}, api.Point{X: 4, Y: 1}, 1},
		{api.Point{}, api.Point{X: 4}, api.Point{X: 4, Y: -1}, -1},
		{api.Point{}, api.Point{X: 4}, api.Point{X: 9}, 0},
		{api.Point{}, api.Point{X: 4}, api.Point{X: -9}, 0},
		{api.Point{}, api.Point{X: 4}, api.Point{}, 0},
		{api.Point{X: 3, Y: 5}, api.Point{X: 3, Y: 5}, api.Point{X: 7, Y: 1}, 0},
		{api.Point{X: 3, Y: 5}, api.Point{X: 7, Y: 1}, api.Point{X: 7, Y: 1}, 0},
		{api.Point{X: 3, Y: 5}, api.Point{X: 3, Y: 5}, api.Point{X: 3, Y: 5}, 0},
		{api.Point{X: -most, Y: -most}, api.Point{X: most, Y: -most}, api.Point{X: most, Y: most}, 1},
		{api.Point{X: -most, Y: -most}, api.Point{X: -most, Y: most}, api.Point{X: most, Y: most}, -1},
		{api.Point{X: -most, Y: most}, api.Point{X: -most, Y: -most}, api.Point{X: most, Y: -most}, 1},
		{api.Point{X: -most, Y: -most}, api.Point{}, api.Point{X: most, Y: most}, 0},
		{api.Point{X: -most, Y: -most}, api.Point{X: most, Y: most}, api.Point{X: most - 1, Y: most - 1}, 0},
		{api.Point{X: -most, Y: -most}, api.Point{X: most, Y: most}, api.Point{X: most - 1, Y: most}, 1},
		{api.Point{X: -most, Y: -most}, api.Point{X: most, Y: most}, api.Point{X: most, Y: most - 1}, -1},
		{api.Point{X: -most, Y: -most}, api.Point{X: most - 1, Y: most - 2}, api.Point{X: most, Y: most - 1}, 1},
		{api.Point{X: -most, Y: -most}, api.Point{X: most - 2, Y: most - 1}, api.Point{X: most - 1, Y: most}, -1},
		{api.Point{X: most, Y: most}, api.Point{X: 1 - most, Y: 2 - most}, api.Point{X: -most, Y: 1 - most}, 1},
	} {
		if got, e := vector.Turn(c.a, c.b, c.c); got != c.want || e != api.OK || got != min(1, max(-1, area(c.a, c.b, c.c))) {
			t.Errorf("Turn(%v, %v, %v): %d, %v; want %d", c.a, c.b, c.c, got, e, c.want)
		}
	}
}

// P7.1, G4.
func TestTurn(t *testing.T) {
	for _, a := range points() {
		for _, b := range points() {
			for _, c := range points() {
				if got, want := turn(t, a, b, c), min(1, max(-1, area(a, b, c))); got != want {
					t.Errorf("Turn(%v, %v, %v): %d; want %d", a, b, c, got, want)
				}
			}
		}
	}
}

// P7.1, G4: points that are not valid, as each of the three, and as all of them.
func TestTurnErrors(t *testing.T) {
	for _, bad := range notPoints() {
		for _, p := range points() {
			for _, q := range []api.Point{p, {}, {X: most, Y: most}, bad} {
				for _, c := range [][3]api.Point{{bad, p, q}, {p, bad, q}, {p, q, bad}} {
					if got, e := vector.Turn(c[0], c[1], c[2]); got != 0 || e != api.ErrArg {
						t.Fatalf("Turn(%v): %d, %v", c, got, e)
					}
				}
			}
		}
	}
}

// P7.1, G5: the examples, vectors of one direction, of opposite directions and at right angles, long and short.
func TestNearCases(t *testing.T) {
	const last = mostOfShare
	long := api.Vec{X: most, Y: most, Z: most}
	for _, c := range []struct {
		a, b api.Vec
		r    api.Rat
		want bool
	}{
		{api.Vec{X: 1}, api.Vec{X: 1, Y: 1}, api.Rat{N: 1, D: 2}, true},
		{api.Vec{X: 1}, api.Vec{X: 1, Y: 1}, api.Rat{N: 51, D: 100}, false},
		{api.Vec{X: 1}, api.Vec{Y: 1}, api.Rat{N: 0, D: 1}, false},
		{api.Vec{X: 1}, api.Vec{X: -1, Y: 1}, api.Rat{N: 1, D: 2}, false},
		{api.Vec{X: 1}, api.Vec{X: -1}, api.Rat{N: 0, D: 1}, false},
		{api.Vec{X: 1}, api.Vec{X: -1}, api.Rat{N: 1, D: 1}, false},
		{api.Vec{X: 1}, api.Vec{X: most}, api.Rat{N: 1, D: 1}, true},
		{api.Vec{X: most}, api.Vec{X: most, Y: most}, api.Rat{N: 1, D: 2}, true},
		{api.Vec{X: most}, api.Vec{X: most, Y: most}, api.Rat{N: 5001, D: last}, false},
		{api.Vec{X: most}, api.Vec{X: most, Y: 1 - most}, api.Rat{N: 5001, D: last}, true},
		{api.Vec{X: most}, api.Vec{X: most, Y: 1 - most}, api.Rat{N: 5003, D: last}, false},
		{api.Vec{X: 1}, api.Vec{X: 3, Y: 4}, api.Rat{N: 9, D: 25}, true},
		{api.Vec{X: -800, Y: -600}, api.Vec{X: 0, Y: -most}, api.Rat{N: 9, D: 25}, true},
		{api.Vec{X: -800, Y: -600}, api.Vec{X: 0, Y: -most}, api.Rat{N: 3601, D: last}, false},
		{long, long, api.Rat{N: 1, D: 1}, true}, {long, long, api.Rat{N: last - 1, D: last}, true},
		{long, api.Vec{X: 1, Y: 1, Z: 1}, api.Rat{N: 1, D: 1}, true},
		{long, api.Vec{X: most, Y: most, Z: most - 1}, api.Rat{N: 1, D: 1}, false},
		{long, api.Vec{X: most, Y: most, Z: most - 1}, api.Rat{N: last - 1, D: last}, true},
		{long, api.Vec{X: -most, Y: -most, Z: -most}, api.Rat{N: 1, D: 1}, false},
		{long, api.Vec{X: -most, Y: -most, Z: -most}, api.Rat{N: 0, D: 1}, false},
		{long, api.Vec{X: most, Y: -most, Z: 1}, api.Rat{N: 0, D: 1}, true},
		{long, api.Vec{X: most, Y: -most, Z: 1}, api.Rat{N: 1, D: last}, false},
		{long, api.Vec{X: most, Y: -most, Z: 0}, api.Rat{N: 0, D: 1}, false},
		{long, api.Vec{X: most, Y: -most, Z: -1}, api.Rat{N: 0, D: 1}, false},
		{api.Vec{X: 1999, Y: 2000}, api.Vec{X: 1998, Y: 1999}, api.Rat{N: 1, D: 1}, false},
		{api.Vec{Y: 1999, Z: 2000}, api.Vec{Y: 1998, Z: 1999}, api.Rat{N: last - 1, D: last}, true},
		{api.Vec{X: 99, Y: 1}, api.Vec{X: 1}, api.Rat{N: 9801, D: 9802}, true},
		{api.Vec{X: 1980, Y: 20}, api.Vec{X: 2000}, api.Rat{N: 9801, D: 9802}, true},
		{api.Vec{X: 1, Y: 99}, api.Vec{X: 1}, api.Rat{N: 1, D: 9802}, true},
		{api.Vec{X: 1, Y: 99}, api.Vec{X: 1}, api.Rat{N: 1, D: 9801}, false},
	} {
		checkNear(t, c.a, c.b, c.r, c.want)
	}
}

// P7.1, G5: somebody looked for angles whose two sides, near 10^18, differ by a few; floats do not tell them apart.
func TestHardlyNear(t *testing.T) {
	for _, c := range []struct {
		a, b api.Vec
		r    api.Rat
		want bool
	}{
		{api.Vec{X: 1850, Y: 1653, Z: 1535}, api.Vec{X: 1929, Y: 1954, Z: -1692}, api.Rat{N: 643, D: 3225}, false},
		{api.Vec{X: 1877, Y: 1564, Z: 1661}, api.Vec{X: 1800, Y: 1651, Z: -1534}, api.Rat{N: 1491, D: 9295}, false},
		{api.Vec{X: 1813, Y: 1878, Z: 1966}, api.Vec{X: 1781, Y: -1558, Z: 1618}, api.Rat{N: 580, D: 4193}, false},
		{api.Vec{X: 1842, Y: 1803, Z: 1817}, api.Vec{X: 1792, Y: 1707, Z: -1989}, api.Rat{N: 643, D: 8435}, false},
		{api.Vec{X: 1522, Y: 1614, Z: 1914}, api.Vec{X: 1854, Y: 1559, Z: 1497}, api.Rat{N: 8849, D: 9154}, false},
		{api.Vec{X: 1905, Y: 1888, Z: 1734}, api.Vec{X: -1719, Y: 1562, Z: 1547}, api.Rat{N: 405, D: 5792}, true},
		{api.Vec{X: 1775, Y: 1573, Z: 1757}, api.Vec{X: 1545, Y: -1627, Z: 1966}, api.Rat{N: 543, D: 3182}, true},
		{api.Vec{X: 1642, Y: 1573, Z: 1538}, api.Vec{X: -1829, Y: 1571, Z: 1533}, api.Rat{N: 421, D: 7770}, true},
	} {
		checkNear(t, c.a, c.b, c.r, c.want)
		checkNear(t, c.b, c.a, c.r, c.want)
	}
}

// P7.1, G5.
func TestNear(t *testing.T) {
	came := map[bool]int{}
	for _, a := range directions() {
		for i, b := range directions() {
			for j, r := range shares() {
				if (i+j)%3 == 0 || r.N == 0 || r.D == 1 {
					want := isNear(a, b, r)
					checkNear(t, a, b, r, want)
					came[want]++
				}
			}
		}
	}
	if came[true] < 20000 || came[false] < 20000 {
		t.Errorf("answers: %v", came)
	}
}

// P7.1, G5: angles that are at a share, with vectors of all lengths.
func TestNearAtShare(t *testing.T) {
	random := rand.New(rand.NewPCG(7, 3))
	for range 400 {
		b := api.Vec{X: 1 + random.IntN(60), Y: random.IntN(111) - 55, Z: random.IntN(111) - 55}
		top, bottom := b.X*b.X, scalar(b, b)
		r := api.Rat{N: top / common(top, bottom), D: bottom / common(top, bottom)}
		for _, by := range []int{1, 1 + random.IntN(33), 33} {
			far := api.Vec{X: b.X * by, Y: b.Y * by, Z: b.Z * by}
			for _, x := range []int{1, 1 + random.IntN(most), most} {
				a := api.Vec{X: x}
				checkNear(t, a, far, r, true)
				low, next := bounds(a, far)
				if low != r {
					t.Errorf("%v and %v: share %v, not %v", a, far, low, r)
				}
				if r.N < r.D {
					checkNear(t, a, far, next, false)
				}
				checkNear(t, api.Vec{X: -x}, far, r, false)
				checkNear(t, api.Vec{X: -x}, far, api.Rat{N: 0, D: 1}, false)
			}
		}
	}
}

// P7.1, G5: angles between two neighbouring shares.
func TestNearBetweenShares(t *testing.T) {
	random := rand.New(rand.NewPCG(7, 4))
	held := 0
	for range 600 {
		any := func() int { return random.IntN(2*most+1) - most }
		a, b := api.Vec{X: any(), Y: any(), Z: any()}, api.Vec{X: any(), Y: any(), Z: any()}
		if scalar(a, b) <= 0 {
			continue
		}
		held++
		low, next := bounds(a, b)
		checkNear(t, a, b, low, true)
		checkNear(t, a, b, next, false)
	}
	if held < 200 {
		t.Errorf("only %d angles", held)
	}
}

// P7.1, G5: vectors that are not valid or have only zeros, and what is no share.
func TestNearErrors(t *testing.T) {
	check := func(a, b api.Vec, r api.Rat) {
		if is, e := vector.Near(a, b, r); is || e != api.ErrArg {
			t.Errorf("Near(%v, %v, %v): %v, %v", a, b, r, is, e)
		}
	}
	some := []api.Vec{{X: 1}, {X: 1, Y: 1}, {X: most, Y: most, Z: most}, {X: -most, Y: most - 1, Z: 1}, {Z: 1}, zero}
	for _, bad := range append(notVectors(), zero) {
		for _, v := range append(some, bad) {
			for _, r := range []api.Rat{{N: 0, D: 1}, {N: 1, D: 2}, {N: 1, D: 1}, {N: 2, D: 1}, {}} {
				check(bad, v, r)
				check(v, bad, r)
			}
		}
	}
	for _, r := range notShares {
		for _, a := range directions() {
			for _, b := range append(some, a) {
				check(a, b, r)
			}
		}
	}
	if is, e := vector.Near(api.Vec{X: math.MinInt}, api.Vec{X: math.MinInt}, api.Rat{N: math.MinInt, D: math.MinInt}); is || e != api.ErrArg {
		t.Errorf("Near of the least integers: %v, %v", is, e)
	}
}
