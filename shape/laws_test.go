package shape_test

import (
	"math/rand/v2"
	"slices"
	"testing"

	"barcarole/api"
	"barcarole/shape"
)

// insidePoints are some points with integer coordinates that are strictly inside a body, among them those closest to
// its sides.
func insidePoints(b api.Body, random *rand.Rand) []api.Vec {
	list := pointsFor(b)
	for range 200 {
		p, q, r := b.Base[random.IntN(len(b.Base))], b.Base[random.IntN(len(b.Base))], b.Base[random.IntN(len(b.Base))]
		list = append(list, vec((p.X+q.X+r.X)/3, (p.Y+q.Y+r.Y)/3, b.Low+1+random.IntN(b.High-b.Low)))
	}
	list = slices.DeleteFunc(list, func(v api.Vec) bool { return !isIn(b, v) })
	random.Shuffle(len(list), func(i, j int) { list[i], list[j] = list[j], list[i] })
	return list[:min(len(list), 40)]
}

// P8.2: the clip is the whole way, and all points with integer coordinates on it are inside.
func TestConvex(t *testing.T) {
	held, between := 0, 0
	random := rand.New(rand.NewPCG(8, 5))
	for _, b := range bodies() {
		points := insidePoints(b, random)
		for _, v := range points {
			for _, w := range points {
				if v == w {
					continue
				}
				held++
				if low, high, is := clip(t, b, v, w); !is || low != zero || high != one {
					t.Errorf("%v from %v to %v: %v, %v, %v", b, v, w, low, high, is)
				}
				by := minus(w, v)
				n := common(common(by.X, by.Y), by.Z)
				for i := 0; i <= n; i += max(1, n/20) {
					between++
					if p := plus(v, vec(by.X/n*i, by.Y/n*i, by.Z/n*i)); !inside(t, b, p) {
						t.Errorf("%v: %v is not inside, between %v and %v", b, p, v, w)
					}
				}
			}
		}
	}
	if held < 10000 || between < 2*held {
		t.Errorf("only %d ways, %d points", held, between)
	}
}

// isBetween reports whether i / n is strictly between two numbers.
func isBetween(low, high api.Rat, i, n int) bool {
	return low.N*n < i*low.D && i*high.D < high.N*n
}

// checkPoints finds whether the points of a way with n equal steps are inside exactly between the numbers of Clip, and
// returns how many are, and how many are not.
func checkPoints(t *testing.T, b api.Body, from, step api.Vec, n int) (in, out int) {
	t.Helper()
	to := plus(from, times(step, n))
	low, high, is := clip(t, b, from, to)
	for i := 1; i < n; i++ {
		want := is && isBetween(low, high, i, n)
		if p := plus(from, times(step, i)); inside(t, b, p) != want {
			t.Errorf("%v: %v at %d/%d of the way from %v to %v: inside %v; the clip is %v, %v, %v", b, p, i, n, from, to, !want, low, high, is)
		}
		if want {
			in++
		} else {
			out++
		}
	}
	return in, out
}

// P8.3: all points with integer coordinates on ways around small bodies, and past great ones.
func TestPointsOfWays(t *testing.T) {
	allIn, allOut := 0, 0
	count := func(in, out int) { allIn, allOut = allIn+in, allOut+out }
	small := []api.Body{box(vec(0, 0, 0), vec(6, 6, 6)), body(0, 6, 0, 0, 6, 0, 0, 6), body(0, 6, 0, 2, 1, 0, 4, 0, 6, 3, 5, 6, 2, 5), body(-1, 7, 0, 2, 2, 0, 4, 0, 6, 2, 6, 4, 4, 6, 2, 6, 0, 4)}
	for _, b := range small {
		for _, from := range grid(-2, 4) {
			for _, step := range grid(-1, 2) {
				if step != (api.Vec{}) {
					count(checkPoints(t, b, from, step, 6))
				}
			}
		}
	}
	random := rand.New(rand.NewPCG(8, 6))
	for _, b := range bodies() {
		for _, way := range waysOf(b, random) {
			n := 2 + random.IntN(60)
			by := minus(way[1], way[0])
			if step := vec(by.X/n, by.Y/n, by.Z/n); step != (api.Vec{}) {
				count(checkPoints(t, b, way[0], step, n))
			}
		}
	}
	if allIn < 20000 || allOut < 20000 {
		t.Errorf("%d inside, %d outside", allIn, allOut)
	}
}

// P8.3: points of any parts: the middle of a clip is inside, its ends are not, nor is what is next to it outside.
func TestPointsOfClips(t *testing.T) {
	held := 0
	random := rand.New(rand.NewPCG(8, 7))
	for _, b := range bodies() {
		for _, way := range waysOf(b, random) {
			from, to := way[0], way[1]
			low, high, is := clip(t, b, from, to)
			if !is {
				for i := 1; i < 40; i++ {
					if at(from, to, i, 40).isIn(b) {
						t.Errorf("%v from %v to %v: no clip, but inside at %d/40", b, from, to, i)
					}
				}
				continue
			}
			held++
			if less(low, zero) || !less(low, high) || less(one, high) {
				t.Errorf("%v from %v to %v: %v, %v", b, from, to, low, high)
			}
			for _, c := range []struct {
				n, d int
				want bool
			}{
				{low.N + high.N, low.D + high.D, true}, {2*low.N + high.N, 2*low.D + high.D, true}, {low.N + 2*high.N, low.D + 2*high.D, true}, {5*low.N + high.N, 5*low.D + high.D, true}, {low.N + 5*high.N, low.D + 5*high.D, true},
				{low.N, low.D, false}, {high.N, high.D, false}, {5 * low.N, 5*low.D + 1, false}, {5*high.N + 1, 5*high.D + 1, false}, {low.N, low.D + 1, false}, {high.N + 1, high.D + 1, false},
			} {
				if c.n > 0 && c.n < c.d && at(from, to, c.n, c.d).isIn(b) != c.want {
					t.Errorf("%v from %v to %v: inside %v at %d/%d; the clip is %v, %v", b, from, to, !c.want, c.n, c.d, low, high)
				}
			}
		}
	}
	if held < 10000 {
		t.Errorf("only %d clips", held)
	}
}

// P8.4.
func TestBack(t *testing.T) {
	came := map[bool]int{}
	random := rand.New(rand.NewPCG(8, 8))
	for _, b := range bodies() {
		for _, way := range waysOf(b, random) {
			low, high, is := clip(t, b, way[0], way[1])
			wantLow, wantHigh := api.Rat{N: high.D - high.N, D: high.D}, api.Rat{N: low.D - low.N, D: low.D}
			if !is {
				wantLow, wantHigh = zero, zero
			}
			came[is]++
			if l, h, back := clip(t, b, way[1], way[0]); back != is || l != wantLow || h != wantHigh {
				t.Errorf("%v from %v to %v: %v, %v, %v; back %v, %v, %v", b, way[0], way[1], low, high, is, l, h, back)
			}
		}
	}
	if came[true] < 10000 || came[false] < 10000 {
		t.Errorf("answers: %v", came)
	}
}

// P8.5.
func TestMoved(t *testing.T) {
	points, clips := 0, 0
	random := rand.New(rand.NewPCG(8, 9))
	for _, b := range bodies() {
		for _, way := range waysOf(b, random) {
			size := []int{3, 50, 2000}[random.IntN(3)]
			any := func() int { return random.IntN(2*size+1) - size }
			by := vec(any(), any(), any())
			m, e := shape.Move(b, by)
			if e != api.OK {
				continue
			}
			if back := move(t, m, times(by, -1)); !equalBodies(back, b) {
				t.Errorf("%v by %v and back: %v", b, by, back)
			}
			from, to := plus(way[0], by), plus(way[1], by)
			if isVector(from) {
				points++
				if is := inside(t, b, way[0]); inside(t, m, from) != is {
					t.Errorf("%v is inside %v: %v; not so when moved by %v", way[0], b, is, by)
				}
			}
			if isVector(from) && isVector(to) {
				clips++
				low, high, is := clip(t, b, way[0], way[1])
				if l, h, same := clip(t, m, from, to); l != low || h != high || same != is {
					t.Errorf("%v from %v to %v: %v, %v, %v; moved by %v: %v, %v, %v", b, way[0], way[1], low, high, is, by, l, h, same)
				}
			}
		}
	}
	if points < 10000 || clips < 10000 {
		t.Errorf("only %d points, %d clips", points, clips)
	}
}

// P8.5: moves in two steps, and a body with what is at its corners.
func TestMovedAsFarAsPossible(t *testing.T) {
	for _, b := range []api.Body{example(), body(-2, 3, 0, 0, 4, 0, 0, 4), body(0, 10, 0, 3, 3, 0, 7, 0, 10, 3, 10, 7, 7, 10, 3, 10, 0, 7)} {
		for _, x := range []int{-2000, 1990} {
			for _, y := range []int{-2000, 1990} {
				for _, z := range []int{-1998, 1990} {
					by := vec(x, y, z)
					m := move(t, b, by)
					if !equalBodies(m, moved(b, by)) || !equalBodies(move(t, m, times(by, -1)), b) || !equalBodies(move(t, move(t, b, vec(x, 0, 0)), vec(0, y, z)), m) {
						t.Errorf("%v by %v: %v", b, by, m)
					}
					for _, v := range grid(0, 10) {
						if inside(t, b, v) != inside(t, m, plus(v, by)) {
							t.Errorf("%v and %v, moved by %v", b, v, by)
						}
					}
				}
			}
		}
	}
}

// checkPair finds whether the answer for two bodies is the same in both orders, and when both are moved, and whether
// no point is strictly inside both if they are apart. It returns the answer and how many moves there were.
func checkPair(t *testing.T, a, b api.Body, random *rand.Rand) (is bool, moves int) {
	t.Helper()
	is = apart(t, a, b)
	if apart(t, b, a) != is {
		t.Errorf("%v and %v: %v; the other way %v", a, b, is, !is)
	}
	for range 3 {
		size := []int{3, 50, 2000}[random.IntN(3)]
		any := func() int { return random.IntN(2*size+1) - size }
		by := vec(any(), any(), any())
		m, e := shape.Move(a, by)
		n, f := shape.Move(b, by)
		if e != api.OK || f != api.OK {
			continue
		}
		moves++
		if apart(t, m, n) != is {
			t.Errorf("%v and %v: %v; moved by %v %v", a, b, is, by, !is)
		}
	}
	if !is {
		return is, moves
	}
	for _, points := range [][]api.Vec{insidePoints(a, random), insidePoints(b, random)} {
		for _, v := range points {
			if inside(t, a, v) && inside(t, b, v) {
				t.Errorf("%v and %v are apart, and %v is inside", a, b, v)
			}
		}
	}
	return is, moves
}

// P8.6.
func TestPairs(t *testing.T) {
	came, moves := map[bool]int{}, 0
	random := rand.New(rand.NewPCG(8, 10))
	check := func(a, b api.Body) {
		is, n := checkPair(t, a, b, random)
		came[is]++
		moves += n
	}
	for _, a := range bodies() {
		for _, b := range bodies() {
			check(a, b)
		}
	}
	for i := range 3000 {
		size := []int{3, 8, 40, 900}[i%4]
		a, b := randomBody(random, size), randomBody(random, size)
		check(a, b)
	}
	if came[true] < 1000 || came[false] < 1000 || moves < 4000 {
		t.Errorf("answers: %v, %d moves", came, moves)
	}
}

// P8.6: all points with integer coordinates, and halves and thirds of them, around small bodies.
func TestPointsOfPairs(t *testing.T) {
	held, list := 0, smallBases(3)
	for i, p := range list {
		a := api.Body{Base: p, Low: 0, High: 2}
		for j := i % 5; j < len(list); j += 5 {
			for x := -1; x <= 1; x++ {
				b := moved(api.Body{Base: list[j], Low: 0, High: 2}, vec(x, (i+j)%3-1, (i*j)%4-1))
				if !apart(t, a, b) {
					continue
				}
				held++
				for k := range 13 * 13 * 13 {
					s := spot{k % 13, k / 13 % 13, k / 169, 6}
					if s.isIn(a) && s.isIn(b) {
						t.Errorf("%v and %v are apart, and %v is inside", a, b, s)
					}
				}
			}
		}
	}
	if held < 1000 {
		t.Errorf("only %d pairs", held)
	}
}

// P8.6: a body is not apart from itself, nor from one that is inside it.
func TestNotApartFromItself(t *testing.T) {
	for _, b := range bodies() {
		same := api.Body{Base: slices.Clone(b.Base), Low: b.Low, High: b.High}
		if apart(t, b, b) || apart(t, b, same) || apart(t, same, b) {
			t.Errorf("%v is apart from itself", b)
		}
		for i := 1; i < len(b.Base) && len(b.Base) > 3; i++ {
			less := api.Body{Base: slices.Delete(slices.Clone(b.Base), i, i+1), Low: b.Low, High: b.High}
			if apart(t, b, less) || apart(t, less, b) {
				t.Errorf("%v is apart from %v", b, less)
			}
		}
		if b.High-b.Low > 1 {
			low, high := api.Body{Base: b.Base, Low: b.Low, High: b.Low + 1}, api.Body{Base: b.Base, Low: b.High - 1, High: b.High}
			if apart(t, b, low) || apart(t, high, b) || !apart(t, low, high) || !apart(t, high, low) {
				t.Errorf("%v, its lowest and its highest layer", b)
			}
		}
	}
}

// P8.7: the base from another corner, or the other way around.
func TestOtherCorners(t *testing.T) {
	for _, b := range bodies() {
		for i := range b.Base {
			from := api.Body{Base: slices.Concat(b.Base[i:], b.Base[:i]), Low: b.Low, High: b.High}
			if shape.Valid(from) != (i == 0) {
				t.Errorf("Valid(%v): %v", from, i != 0)
			}
			slices.Reverse(from.Base)
			if shape.Valid(from) {
				t.Errorf("Valid(%v) is true", from)
			}
		}
	}
}

// P8.7: the base without one of its corners but the first.
func TestWithoutCorner(t *testing.T) {
	held, in, lost := 0, 0, 0
	random := rand.New(rand.NewPCG(8, 11))
	for _, b := range bodies() {
		points := append(pointsFor(b), insidePoints(b, random)...)
		for i := 1; i < len(b.Base); i++ {
			less := api.Body{Base: slices.Delete(slices.Clone(b.Base), i, i+1), Low: b.Low, High: b.High}
			if shape.Valid(less) != (len(b.Base) > 3) {
				t.Errorf("Valid(%v): %v", less, len(b.Base) <= 3)
			}
			if len(b.Base) == 3 {
				continue
			}
			held++
			for _, v := range points {
				before, after := inside(t, b, v), inside(t, less, v)
				switch {
				case after && !before:
					t.Errorf("%v: %v is inside only without corner %d", b, v, i)
				case after:
					in++
				case before:
					lost++
				}
			}
		}
	}
	if held < 100 || in < 1000 || lost < 1000 {
		t.Errorf("%d bodies, %d points inside both, %d lost", held, in, lost)
	}
}
