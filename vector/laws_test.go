package vector_test

import (
	"math/big"
	"math/rand/v2"
	"testing"

	"barcarole/api"
	"barcarole/vector"
)

// P7.2: be the sum a vector or an error.
func TestAddIsCommutative(t *testing.T) {
	for _, a := range vectors() {
		for _, b := range vectors() {
			v, e := vector.Add(a, b)
			if w, f := vector.Add(b, a); v != w || e != f {
				t.Errorf("%v and %v: %v, %v; the other way %v, %v", a, b, v, e, w, f)
			}
		}
	}
}

// P7.2: wherever all four sums are valid.
func TestAddIsAssociative(t *testing.T) {
	held, list := 0, vectors()
	for _, a := range list {
		for _, b := range list {
			ab, e := vector.Add(a, b)
			for _, c := range list[:100] {
				bc, f := vector.Add(b, c)
				if e != api.OK || f != api.OK {
					continue
				}
				v, g := vector.Add(ab, c)
				w, h := vector.Add(a, bc)
				if g == api.OK && h == api.OK {
					held++
				}
				if g != h || v != w {
					t.Errorf("%v, %v, %v: %v, %v and %v, %v", a, b, c, v, g, w, h)
				}
			}
		}
	}
	if held < 100000 {
		t.Errorf("only %d triples", held)
	}
}

// P7.2.
func TestSubUndoesAdd(t *testing.T) {
	held := 0
	for _, a := range vectors() {
		for _, b := range vectors() {
			if sum, e := vector.Add(a, b); e == api.OK {
				held++
				if v, f := vector.Sub(sum, b); v != a || f != api.OK {
					t.Errorf("%v plus and minus %v: %v, %v", a, b, v, f)
				}
				if v, f := vector.Sub(sum, a); v != b || f != api.OK {
					t.Errorf("%v plus %v minus %v: %v, %v", a, b, a, v, f)
				}
			}
			if difference, e := vector.Sub(a, b); e == api.OK {
				if v, f := vector.Add(difference, b); v != a || f != api.OK {
					t.Errorf("%v minus and plus %v: %v, %v", a, b, v, f)
				}
			}
		}
	}
	if held < 5000 {
		t.Errorf("only %d sums", held)
	}
}

// P7.2.
func TestZero(t *testing.T) {
	for _, v := range vectors() {
		right, e := vector.Add(v, zero)
		left, f := vector.Add(zero, v)
		less, g := vector.Sub(v, zero)
		nothing, h := vector.Sub(v, v)
		if right != v || left != v || less != v || nothing != zero || e != api.OK || f != api.OK || g != api.OK || h != api.OK {
			t.Errorf("%v: %v, %v, %v, %v", v, right, left, less, nothing)
		}
	}
}

// P7.3.
func TestDotIsSymmetricAndDistributes(t *testing.T) {
	held, list := 0, vectors()
	for _, b := range list {
		for _, c := range list {
			if s, r := dot(t, b, c), dot(t, c, b); s != r {
				t.Errorf("%v and %v: %d; the other way %d", b, c, s, r)
			}
			sum, e := vector.Add(b, c)
			if e != api.OK {
				continue
			}
			for _, a := range list {
				held++
				if s, r := dot(t, a, sum), dot(t, a, b)+dot(t, a, c); s != r || dot(t, sum, a) != r {
					t.Errorf("%v with %v and %v: %d and %d", a, b, c, s, r)
				}
			}
		}
	}
	if held < 100000 {
		t.Errorf("only %d triples", held)
	}
}

// P7.3: the square of each vector but the zero vector is above 0.
func TestSquares(t *testing.T) {
	for _, v := range vectors() {
		if s := dot(t, v, v); s < 0 || (s == 0) != (v == zero) {
			t.Errorf("square of %v: %d", v, s)
		}
	}
}

// checkSchwarz finds whether the square of a product is below the product of the squares, or equal to it for
// multiples, and returns whether it is equal.
func checkSchwarz(t *testing.T, a, b api.Vec) bool {
	t.Helper()
	s := dot(t, a, b)
	order := wideProduct(s, s).Cmp(wideProduct(dot(t, a, a), dot(t, b, b)))
	if order > 0 || (order == 0) != isParallel(a, b) {
		t.Errorf("%v and %v: order %d", a, b, order)
	}
	return order == 0
}

// P7.3: all pairs, among them pairs that are nearly multiples.
func TestSchwarz(t *testing.T) {
	came := map[bool]int{}
	for _, a := range vectors() {
		for _, b := range vectors() {
			came[checkSchwarz(t, a, b)]++
		}
	}
	for _, a := range []api.Vec{{X: 1999, Y: 2000}, {Y: 1999, Z: 2000}, {X: 2000, Z: -1999}, {X: 2000, Y: 2000, Z: 1999}} {
		for _, by := range append(cube(1), cube(2)...) {
			b := api.Vec{X: a.X/2 + by.X, Y: a.Y/2 + by.Y, Z: a.Z/2 + by.Z}
			came[checkSchwarz(t, a, b)]++
		}
	}
	if came[true] < 1000 || came[false] < 10000 {
		t.Errorf("equal, or below: %v", came)
	}
}

// P7.3: multiples, of either sign, and with the zero vector.
func TestMultiples(t *testing.T) {
	random := rand.New(rand.NewPCG(7, 5))
	for range 2000 {
		size := 1 + random.IntN(200)
		any := func() int { return random.IntN(2*size+1) - size }
		v := api.Vec{X: any(), Y: any(), Z: any()}
		k, l := random.IntN(2*(most/size)+1)-most/size, random.IntN(2*(most/size)+1)-most/size
		a, b := api.Vec{X: v.X * k, Y: v.Y * k, Z: v.Z * k}, api.Vec{X: v.X * l, Y: v.Y * l, Z: v.Z * l}
		if !checkSchwarz(t, a, b) {
			t.Errorf("%v and %v are multiples of %v", a, b, v)
		}
	}
}

// checkExchanged finds whether exchanging two of three points changes the sign.
func checkExchanged(t *testing.T, list []api.Point) {
	t.Helper()
	came := map[int]int{}
	for _, a := range list {
		for _, b := range list {
			for _, c := range list {
				s := turn(t, a, b, c)
				came[s]++
				if turn(t, b, a, c) != -s || turn(t, a, c, b) != -s || turn(t, c, b, a) != -s {
					t.Errorf("%v, %v, %v: %d, and not %d in another order", a, b, c, s, -s)
				}
			}
		}
	}
	if came[1] != came[-1] || came[1] < 1000 || came[0] < 300 {
		t.Errorf("turns: %v", came)
	}
}

// P7.4.
func TestExchanged(t *testing.T) {
	checkExchanged(t, points())
	checkExchanged(t, square(2, 1))
	checkExchanged(t, square(2, most/2))
}

func moved(p api.Point, by api.Vec) (api.Point, bool) {
	v, e := vector.Add(api.Vec{X: p.X, Y: p.Y}, api.Vec{X: by.X, Y: by.Y})
	return api.Point{X: v.X, Y: v.Y}, e == api.OK
}

// P7.4: moved as far as the plane reaches.
func TestMoved(t *testing.T) {
	held := 0
	ways := []api.Vec{{X: 1}, {Y: -1}, {X: -3, Y: 5}, {X: 1000, Y: 1000}, {X: -2000, Y: 1000}, {X: 1999, Y: -1999}, {X: 2000, Y: 2000}, {X: -2000, Y: -2000}}
	for _, a := range points() {
		for _, b := range points() {
			for _, c := range points() {
				for _, by := range ways {
					p, in := moved(a, by)
					q, inside := moved(b, by)
					r, within := moved(c, by)
					if !in || !inside || !within {
						continue
					}
					held++
					if s, u := turn(t, a, b, c), turn(t, p, q, r); s != u {
						t.Errorf("%v, %v, %v: %d; moved by %v: %d", a, b, c, s, by, u)
					}
				}
			}
		}
	}
	if held < 20000 {
		t.Errorf("only %d triples were moved", held)
	}
}

// leftOf tells, for the indices of three points, whether the third one lies to the left of the way over the others.
func leftOf(t *testing.T, list []api.Point) func(a, b, c int) bool {
	t.Helper()
	n := len(list)
	turns := make([]bool, n*n*n)
	for a := range list {
		for b := range list {
			for c := range list {
				turns[(a*n+b)*n+c] = turn(t, list[a], list[b], list[c]) == 1
			}
		}
	}
	return func(a, b, c int) bool { return turns[(a*n+b)*n+c] }
}

// checkInterior finds whether three points around a fourth one turn to the left.
func checkInterior(t *testing.T, list []api.Point) {
	t.Helper()
	left, held := leftOf(t, list), 0
	for w := range list {
		for s := range list {
			for p := range list {
				for q := range list {
					if !left(w, s, q) || !left(s, p, q) || !left(p, w, q) {
						continue
					}
					held++
					if !left(w, s, p) {
						t.Errorf("%v is to the left of the ways around %v, %v, %v", list[q], list[w], list[s], list[p])
					}
				}
			}
		}
	}
	if held < 500 {
		t.Errorf("only %d points inside", held)
	}
}

// checkTransitive finds whether what is to the left, seen from a point, is ordered.
func checkTransitive(t *testing.T, list []api.Point) {
	t.Helper()
	left, held := leftOf(t, list), 0
	for w := range list {
		for s := range list {
			var half []int
			for p := range list {
				if left(w, s, p) {
					half = append(half, p)
				}
			}
			for _, p := range half {
				for _, q := range half {
					for _, r := range half {
						if !left(w, p, q) || !left(w, q, r) {
							continue
						}
						held++
						if !left(w, p, r) {
							t.Errorf("from %v, to the left of %v: %v, %v, %v", list[w], list[s], list[p], list[q], list[r])
						}
					}
				}
			}
		}
	}
	if held < 5000 {
		t.Errorf("only %d triples to the left", held)
	}
}

// P7.4.
func TestLeft(t *testing.T) {
	for _, list := range [][]api.Point{points(), square(2, 1), square(2, most/2)} {
		checkInterior(t, list)
		checkTransitive(t, list)
	}
}

// P7.5: by Dot where both vectors are valid, and by the same sum where they are longer.
func TestPlane(t *testing.T) {
	short, long := 0, 0
	for _, a := range points() {
		for _, b := range points() {
			for _, c := range points() {
				turned, other := api.Vec{X: a.Y - b.Y, Y: b.X - a.X}, api.Vec{X: c.X - a.X, Y: c.Y - a.Y}
				s, e := vector.Dot(turned, other)
				if e == api.OK {
					short++
				} else {
					s = scalar(turned, other)
					long++
				}
				if got := turn(t, a, b, c); got != big.NewInt(int64(s)).Sign() {
					t.Errorf("%v, %v, %v: turn %d, product %d", a, b, c, got, s)
				}
			}
		}
	}
	if short < 10000 || long < 10000 {
		t.Errorf("vectors that are valid, or not: %d, %d", short, long)
	}
}

// P7.6: symmetric, and for each smaller share.
func TestNearIsSymmetricAndFalls(t *testing.T) {
	last := 0
	for _, a := range directions() {
		for _, b := range directions() {
			held := true
			for _, r := range shares() {
				is := near(t, a, b, r)
				if near(t, b, a, r) != is {
					t.Errorf("%v and %v: %v at %v, but not the other way", a, b, is, r)
				}
				if is && !held {
					t.Errorf("%v and %v: at %v, but not at each smaller share", a, b, r)
				}
				if held && !is {
					last++
				}
				held = is
			}
		}
	}
	if last < 5000 {
		t.Errorf("only %d angles at some shares alone", last)
	}
}

// times is a vector with another length, if it is valid.
func times(v api.Vec, k int) (api.Vec, bool) {
	v = api.Vec{X: v.X * k, Y: v.Y * k, Z: v.Z * k}
	return v, isVector(v)
}

// P7.6: other lengths of one of the vectors, or of both.
func TestNearOfOtherLengths(t *testing.T) {
	held := 0
	for _, a := range directions() {
		for i, b := range directions() {
			for j, k := range []int{2, 3, 10, 1000, most - 1, most} {
				longer, ok := times(a, k)
				other, both := times(b, 1+(i+j)%7)
				if !ok || !both {
					continue
				}
				low, next := bounds(a, b)
				for _, r := range []api.Rat{{N: 0, D: 1}, low, next, {N: 1, D: 1}} {
					held++
					if is := near(t, a, b, r); near(t, longer, b, r) != is || near(t, a, other, r) != is || near(t, longer, other, r) != is {
						t.Errorf("%v and %v at %v: %v, but not as %v and %v", a, b, r, is, longer, other)
					}
				}
				break
			}
		}
	}
	if held < 5000 {
		t.Errorf("only %d angles", held)
	}
}

// P7.6: 1 for one direction, 0 for a product above 0.
func TestNearAtEnds(t *testing.T) {
	came := map[[2]bool]int{}
	for _, a := range directions() {
		for _, b := range append(directions(), a, api.Vec{X: -a.X, Y: -a.Y, Z: -a.Z}) {
			ahead := dot(t, a, b) > 0
			along := ahead && isParallel(a, b)
			came[[2]bool{ahead, along}]++
			if near(t, a, b, api.Rat{N: 0, D: 1}) != ahead || near(t, a, b, api.Rat{N: 1, D: 1}) != along {
				t.Errorf("%v and %v: ahead %v, along %v", a, b, ahead, along)
			}
		}
	}
	if came[[2]bool{true, true}] < 400 || came[[2]bool{true, false}] < 5000 || came[[2]bool{false, false}] < 5000 {
		t.Errorf("angles: %v", came)
	}
}
