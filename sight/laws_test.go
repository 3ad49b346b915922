package sight_test

import (
	"math/rand/v2"
	"slices"
	"testing"

	"barcarole/api"
)

func isSeen(l api.Line) bool { return l.Body == -1 }

// seenOf reports of each target whether its line says that it is seen.
func seenOf(list []api.Line) []bool {
	var seen []bool
	for _, l := range list {
		seen = append(seen, isSeen(l))
	}
	return seen
}

// otherLines are as right as the lines of a view: with any body that blocks, and any At inside its clip.
func otherLines(v view, random *rand.Rand) []api.Line {
	list := linesOf(v)
	for i, l := range list {
		if isSeen(l) {
			continue
		}
		for _, j := range random.Perm(len(v.bodies)) {
			if low, high, is := clipOf(v.bodies[j], v.eye, v.targets[i].At); is {
				m, n := 1+random.IntN(9), 1+random.IntN(9)
				list[i].Body, list[i].At = j, reduced(m*low.N+n*high.N, m*low.D+n*high.D)
				break
			}
		}
	}
	return list
}

// P9.2: what Lines returns is right, and so are other lines, which agree with it about what is seen.
func TestCertificates(t *testing.T) {
	others := 0
	random := rand.New(rand.NewPCG(9, 3))
	for _, v := range views() {
		list := lines(t, v)
		if !check(t, v, list) {
			t.Errorf("Check of %v: %v is not right", v, list)
		}
		other := otherLines(v, random)
		if !check(t, v, other) || !slices.Equal(seenOf(other), seenOf(list)) {
			t.Errorf("Check of %v: %v is not right, or does not agree with %v", v, other, list)
		}
		if !slices.Equal(other, list) {
			others++
		}
	}
	if others < 100 {
		t.Errorf("only %d other lists of lines", others)
	}
}

// P9.2: no line that is right says of a target that is seen that it is not, or the other way around.
func TestNoContradiction(t *testing.T) {
	came := map[bool]int{}
	halves := []api.Rat{{N: 1, D: 2}, {N: 1, D: 3}, {N: 2, D: 3}, {N: 1, D: 10}, {N: 9, D: 10}}
	for _, v := range views() {
		v.targets = v.targets[:min(len(v.targets), 7)]
		list := lines(t, v)
		for i, l := range list {
			came[isSeen(l)]++
			wrong := slices.Clone(list)
			if !isSeen(l) {
				wrong[i] = free(i)
				if check(t, v, wrong) {
					t.Errorf("Check of %v: target %d is seen, or not: %v", v, i, l)
				}
				continue
			}
			for j := range v.bodies {
				wrong[i] = api.Line{Target: i, Body: j, At: halves[j%len(halves)]}
				if check(t, v, wrong) {
					t.Errorf("Check of %v: target %d is seen, or not: %v", v, i, wrong[i])
				}
			}
		}
	}
	if came[true] < 300 || came[false] < 300 {
		t.Errorf("seen: %v", came)
	}
}

// P9.3.
func TestBothWays(t *testing.T) {
	came := map[bool]int{}
	for _, v := range views() {
		for i, l := range lines(t, v) {
			from, to := v.eye, v.targets[i].At
			back := lines(t, view{to, at(from), v.bodies})[0]
			came[isSeen(l)]++
			if back.Body != l.Body || first(t, to, from, v.bodies) != l.Body {
				t.Errorf("from %v to %v past %v: %v, back %v", from, to, v.bodies, l, back)
			}
			if !isSeen(l) && (back.At.D != l.At.D || back.At.N != l.At.D-l.At.N) {
				t.Errorf("from %v to %v past %v: %v, back %v", from, to, v.bodies, l, back)
			}
		}
	}
	if came[true] < 1000 || came[false] < 1000 {
		t.Errorf("seen: %v", came)
	}
}

// P9.4: the bodies of views come one after the other.
func TestMoreBodies(t *testing.T) {
	stayed, hidden := 0, 0
	for _, v := range views() {
		for n := range v.bodies {
			before := lines(t, view{v.eye, v.targets, v.bodies[:n]})
			after := lines(t, view{v.eye, v.targets, v.bodies[:n+1]})
			for i, l := range before {
				switch {
				case !isSeen(l) && after[i] != l:
					t.Errorf("%v with %d bodies: %v; with one more %v", v, n, l, after[i])
				case !isSeen(l):
					stayed++
				case !isSeen(after[i]):
					hidden++
					if after[i].Body != n {
						t.Errorf("%v with %d bodies: %v; with one more %v", v, n, l, after[i])
					}
				}
			}
		}
	}
	if stayed < 10000 || hidden < 1000 {
		t.Errorf("%d lines stayed, %d targets were hidden", stayed, hidden)
	}
}

// P9.5: bodies in another order.
func TestOrderOfBodies(t *testing.T) {
	changed := 0
	random := rand.New(rand.NewPCG(9, 4))
	for _, v := range views() {
		list := lines(t, v)
		mixed := view{v.eye, v.targets, slices.Clone(v.bodies)}
		for range 3 {
			random.Shuffle(len(mixed.bodies), func(i, j int) { mixed.bodies[i], mixed.bodies[j] = mixed.bodies[j], mixed.bodies[i] })
			got := lines(t, mixed)
			if !slices.Equal(seenOf(got), seenOf(list)) {
				t.Errorf("%v: %v; with the bodies in another order %v", v, list, got)
			}
			if !slices.Equal(got, list) {
				changed++
			}
		}
	}
	if changed < 100 {
		t.Errorf("only %d lists of lines changed", changed)
	}
}

// P9.5: targets in another order, and some of them alone.
func TestOrderOfTargets(t *testing.T) {
	random := rand.New(rand.NewPCG(9, 5))
	for _, v := range views() {
		list := lines(t, v)
		order := random.Perm(len(v.targets))
		for n := 1; n <= len(order); n += 1 + n/2 {
			mixed := view{v.eye, nil, v.bodies}
			var want []api.Line
			for i, j := range order[:n] {
				mixed.targets = append(mixed.targets, v.targets[j])
				want = append(want, api.Line{Target: i, Body: list[j].Body, At: list[j].At})
			}
			if got := lines(t, mixed); !slices.Equal(got, want) {
				t.Errorf("%v: %v; in the order %v: %v", v, list, order[:n], got)
			}
		}
	}
}

// movedView is a view with a vector added to all of its points, and whether all are still in range.
func movedView(v view, by api.Vec) (view, bool) {
	m := view{eye: plus(v.eye, by)}
	is := isVector(m.eye)
	for _, target := range v.targets {
		target.At = plus(target.At, by)
		is = is && isVector(target.At)
		m.targets = append(m.targets, target)
	}
	for _, b := range v.bodies {
		b = moved(b, by)
		is = is && isVector(vec(0, b.Low, b.High))
		for _, p := range b.Base {
			is = is && isVector(vec(p.X, p.Y, 0))
		}
		m.bodies = append(m.bodies, b)
	}
	return m, is
}

// P9.6.
func TestMoves(t *testing.T) {
	held := 0
	random := rand.New(rand.NewPCG(9, 6))
	for _, v := range views() {
		list := lines(t, v)
		for _, size := range []int{1, 1, 5, 100, 700, most, most, most} {
			by := randomPoint(random, size)
			m, is := movedView(v, by)
			if !is {
				continue
			}
			held++
			if got := lines(t, m); !slices.Equal(got, list) {
				t.Errorf("%v: %v; moved by %v: %v", v, list, by, got)
			}
			if !check(t, m, list) {
				t.Errorf("%v: %v is not right when moved by %v", v, list, by)
			}
		}
	}
	if held < 500 {
		t.Errorf("only %d moves", held)
	}
}

// P9.6: as far as possible.
func TestMovesToLimits(t *testing.T) {
	v, right := checkedView() // from (-1, -10, 0) to (10, 9, 9)
	for _, x := range []int{1 - most, most - 10} {
		for _, y := range []int{10 - most, most - 9} {
			for _, z := range []int{5 - most, most - 9} {
				m, is := movedView(v, vec(x, y, z))
				if got := lines(t, m); !is || !slices.Equal(got, right) {
					t.Errorf("moved by (%d, %d, %d): %v; want %v", x, y, z, got, right)
				}
			}
		}
	}
}

// checkHalves finds whether the middle of a way is seen from both ends exactly if they see each other, which it returns.
func checkHalves(t *testing.T, from, middle api.Vec, bodies []api.Body) bool {
	t.Helper()
	to := vec(2*middle.X-from.X, 2*middle.Y-from.Y, 2*middle.Z-from.Z)
	whole := first(t, from, to, bodies) == -1
	halves := first(t, from, middle, bodies) == -1 && first(t, to, middle, bodies) == -1
	if whole != halves {
		t.Errorf("from %v to %v past %v: seen %v; the middle from both %v", from, to, bodies, whole, halves)
	}
	return whole
}

// P9.7: all ways around small bodies, and ways of views.
func TestHalves(t *testing.T) {
	came := map[bool]int{}
	small := []api.Body{body(0, 2, 0, 1, 1, 0, 2, 1, 1, 2), body(-1, 1, 0, 0, 2, 0, 0, 2), box(vec(1, 1, 1), vec(3, 3, 3))}
	for _, from := range grid(-1, 3) {
		for _, middle := range grid(0, 2) {
			if from != middle {
				came[checkHalves(t, from, middle, small)]++
			}
		}
	}
	for _, v := range views() {
		for _, target := range v.targets {
			d := vec(target.At.X-v.eye.X, target.At.Y-v.eye.Y, target.At.Z-v.eye.Z)
			if half := vec(d.X/2, d.Y/2, d.Z/2); half != (api.Vec{}) {
				came[checkHalves(t, v.eye, plus(v.eye, half), v.bodies)]++
			}
		}
	}
	if came[true] < 2000 || came[false] < 2000 {
		t.Errorf("seen: %v", came)
	}
}

// checkBetween finds whether the share of both lists of targets is between their shares, which differ if it returns true.
func checkBetween(t *testing.T, eye api.Vec, a, b []api.Target, bodies []api.Body) bool {
	t.Helper()
	ofA := share(t, a, lines(t, view{eye, a, bodies}))
	ofB := share(t, b, lines(t, view{eye, b, bodies}))
	both := slices.Concat(a, b)
	together := share(t, both, lines(t, view{eye, both, bodies}))
	low, high := ofA, ofB
	if less(high, low) {
		low, high = high, low
	}
	if less(together, low) || less(high, together) || low != high && (together == low || together == high) {
		t.Errorf("from %v past %v: share of %v is %v, of %v %v, of both %v", eye, bodies, a, ofA, b, ofB, together)
	}
	return low != high
}

// P9.8.
func TestSharesTogether(t *testing.T) {
	differ := 0
	random := rand.New(rand.NewPCG(9, 7))
	for _, v := range views() {
		n := len(v.targets)
		if n == 1 {
			checkBetween(t, v.eye, v.targets, v.targets, v.bodies)
			continue
		}
		for range 4 {
			cut := 1 + random.IntN(n-1)
			if checkBetween(t, v.eye, v.targets[:cut], v.targets[cut:], v.bodies) {
				differ++
			}
		}
	}
	if differ < 300 {
		t.Errorf("only %d times different shares", differ)
	}
}

// P9.8: shares of any lines, and those that are nearly the same.
func TestSharesOfAnyLines(t *testing.T) {
	random := rand.New(rand.NewPCG(9, 8))
	lists := func(n int) ([]api.Target, []api.Line) {
		var targets []api.Target
		var list []api.Line
		for i := range n {
			targets = append(targets, api.Target{At: randomPoint(random, most), Weight: 1 + random.IntN(mostWeight)})
			list = append(list, blocked(i, random.IntN(3)-1, 1, 2))
		}
		return targets, list
	}
	for range 3000 {
		a, ofA := lists(1 + random.IntN(30))
		b, ofB := lists(1 + random.IntN(30))
		low, high := share(t, a, ofA), share(t, b, ofB)
		if less(high, low) {
			low, high = high, low
		}
		ofBoth := slices.Concat(ofA, ofB)
		for i := range ofBoth {
			ofBoth[i].Target = i
		}
		both := slices.Concat(a, b)
		together := share(t, both, ofBoth)
		if less(together, low) || less(high, together) || together != shareOf(both, ofBoth) {
			t.Errorf("shares %v and %v, together %v", low, high, together)
		}
	}
}
