package sight_test

import (
	"math"
	"math/rand/v2"
	"slices"
	"testing"

	"barcarole/api"
	"barcarole/sight"
)

// The limits, written out: a test that took these from the program would follow its mistakes.
const (
	most        = 2000
	mostBodies  = 60
	mostTargets = 60
	mostWeight  = 100
	mostRat     = 1000000000
)

// beyond are integers that are no coordinates: next to the limits, and those that a narrower type, a sum or a product
// would wrap into one.
var beyond = []int{most + 1, -most - 1, 2 * most, -2 * most, 1 << 16, 1<<16 + 5, -1 << 31, 1 << 32, 1<<32 + 1, 7 - 1<<32, 1 << 62, math.MaxInt, math.MinInt, math.MinInt + 3}

// view is what the functions are asked about.
type view struct {
	eye     api.Vec
	targets []api.Target
	bodies  []api.Body
}

func vec(x, y, z int) api.Vec { return api.Vec{X: x, Y: y, Z: z} }

func plus(v, w api.Vec) api.Vec { return vec(v.X+w.X, v.Y+w.Y, v.Z+w.Z) }

func isVector(v api.Vec) bool {
	return max(v.X, v.Y, v.Z) <= most && min(v.X, v.Y, v.Z) >= -most
}

// body makes a body from its heights and the coordinates of its corners.
func body(low, high int, coordinates ...int) api.Body {
	b := api.Body{Low: low, High: high}
	for i := 0; i < len(coordinates); i += 2 {
		b.Base = append(b.Base, api.Point{X: coordinates[i], Y: coordinates[i+1]})
	}
	return b
}

// box is a body with four corners.
func box(from, to api.Vec) api.Body {
	return body(from.Z, to.Z, from.X, from.Y, to.X, from.Y, to.X, to.Y, from.X, to.Y)
}

// slab stands across the ways along the x axis, from one x to another one.
func slab(from, to int) api.Body { return box(vec(from, -5, -5), vec(to, 5, 5)) }

// example is the body of the document's examples.
func example() api.Body { return box(vec(4, -1, 0), vec(6, 1, 3)) }

// moved is a body with a vector added to all of its points.
func moved(b api.Body, by api.Vec) api.Body {
	m := api.Body{Low: b.Low + by.Z, High: b.High + by.Z}
	for _, p := range b.Base {
		m.Base = append(m.Base, api.Point{X: p.X + by.X, Y: p.Y + by.Y})
	}
	return m
}

// at are targets at points, with different weights.
func at(points ...api.Vec) []api.Target {
	var list []api.Target
	for i, v := range points {
		list = append(list, api.Target{At: v, Weight: 1 + i*37%mostWeight})
	}
	return list
}

func free(target int) api.Line {
	return api.Line{Target: target, Body: -1, At: api.Rat{N: 0, D: 1}}
}

func blocked(target, body, n, d int) api.Line {
	return api.Line{Target: target, Body: body, At: api.Rat{N: n, D: d}}
}

func common(a, b int) int {
	for b != 0 {
		a, b = b, a%b
	}
	return max(a, -a)
}

// reduced is the number n / d, where d is above 0.
func reduced(n, d int) api.Rat { return api.Rat{N: n / common(n, d), D: d / common(n, d)} }

// less reports whether a number is below another one.
func less(s, t api.Rat) bool { return s.N*t.D < t.N*s.D }

// isNumber is what layer 1 calls valid.
func isNumber(r api.Rat) bool {
	return 1 <= r.D && r.D <= mostRat && -mostRat <= r.N && r.N <= mostRat && common(r.N, r.D) == 1
}

// side is to the left of the way from p to q; it is above 0 for points strictly on that side.
func side(p, q api.Point, x, y, d int) int {
	return (q.X-p.X)*(y-p.Y*d) - (q.Y-p.Y)*(x-p.X*d)
}

// isIn reports whether the point of a way with the part n / d is strictly inside a body.
func isIn(b api.Body, from, to api.Vec, n, d int) bool {
	x, y, z := from.X*d+(to.X-from.X)*n, from.Y*d+(to.Y-from.Y)*n, from.Z*d+(to.Z-from.Z)*n
	for i, p := range b.Base {
		if side(p, b.Base[(i+1)%len(b.Base)], x, y, d) <= 0 {
			return false
		}
	}
	return z > b.Low*d && z < b.High*d
}

// parts are those at which a way meets the plane of a side of a body, in order, with 0 and 1.
func parts(b api.Body, from, to api.Vec) []api.Rat {
	list := []api.Rat{{N: 0, D: 1}, {N: 1, D: 1}}
	add := func(start, end int) {
		if start < end {
			start, end = -start, -end
		}
		if 0 < start && end < 0 {
			list = append(list, reduced(start, start-end))
		}
	}
	for i, p := range b.Base {
		q := b.Base[(i+1)%len(b.Base)]
		add(side(p, q, from.X, from.Y, 1), side(p, q, to.X, to.Y, 1))
	}
	add(from.Z-b.Low, to.Z-b.Low)
	add(from.Z-b.High, to.Z-b.High)
	slices.SortFunc(list, func(s, t api.Rat) int { return s.N*t.D - t.N*s.D })
	return slices.Compact(list)
}

// clipOf is where a way is strictly inside a body: it asks for one point between each two neighbouring parts.
func clipOf(b api.Body, from, to api.Vec) (low, high api.Rat, is bool) {
	list := parts(b, from, to)
	for i, t := range list[1:] {
		s := list[i]
		if !isIn(b, from, to, s.N+t.N, s.D+t.D) {
			continue
		}
		if !is {
			low = s
		}
		high, is = t, true
	}
	return low, high, is
}

// lineOf is what the document requires of the line of a target.
func lineOf(v view, target int) api.Line {
	for i, b := range v.bodies {
		if low, high, is := clipOf(b, v.eye, v.targets[target].At); is {
			return api.Line{Target: target, Body: i, At: reduced(low.N+high.N, low.D+high.D)}
		}
	}
	return free(target)
}

func linesOf(v view) []api.Line {
	var list []api.Line
	for i := range v.targets {
		list = append(list, lineOf(v, i))
	}
	return list
}

// isTrue is what the document requires of a line that is right, if it is that of a target.
func isTrue(v view, target int, l api.Line) bool {
	if l.Target != target {
		return false
	}
	if l.Body == -1 {
		return l == free(target) && lineOf(v, target).Body == -1
	}
	if l.Body < -1 || l.Body >= len(v.bodies) {
		return false
	}
	low, high, is := clipOf(v.bodies[l.Body], v.eye, v.targets[target].At)
	return is && isNumber(l.At) && less(low, l.At) && less(l.At, high)
}

// shareOf is what the document requires of Share.
func shareOf(targets []api.Target, lines []api.Line) api.Rat {
	seen, all := 0, 0
	for i, t := range targets {
		all += t.Weight
		if lines[i].Body == -1 {
			seen += t.Weight
		}
	}
	return reduced(seen, all)
}

// smallBodies have different bases; scaled to any size they stay valid.
func smallBodies() []api.Body {
	return []api.Body{
		box(vec(0, 0, 0), vec(1, 1, 1)), body(0, 1, 0, 0, 1, 0, 0, 1), body(0, 1, 0, 1, 1, 0, 2, 3), body(0, 1, 0, 1, 1, 0, 2, 1, 1, 2), body(0, 1, 0, 0, 2, 1, 1, 1),
		body(0, 1, 0, 0, 3, -1, 5, 1, 4, 4, 1, 3), body(0, 1, 0, 1, 1, 0, 3, 0, 4, 1, 3, 2, 1, 2), body(0, 1, 0, 2, 1, 0, 4, -1, 6, 0, 6, 3, 4, 5, 1, 4), body(0, 1, 0, 1, 1, 0, 2, 0, 3, 1, 3, 2, 2, 3, 1, 3, 0, 2),
	}
}

// greatBodies reach as far as can be; the last two are so thin that ways are inside for hardly a part.
func greatBodies() []api.Body {
	return []api.Body{
		box(vec(-most, -most, -most), vec(most, most, most)), body(-most, most, -most, -700, -700, -most, 700, -most, most, -700, most, 700, 700, most, -700, most, -most, 700),
		body(-most, most, -most, -most, most, most-1, 1-most, 1-most), body(-1, 1, 1-most, 2-most, 0, 0, 3-most, 4-most),
	}
}

// randomBody has a side up to a size, and lies within another size of the origin.
func randomBody(random *rand.Rand, size, within int) api.Body {
	for {
		b := smallBodies()[random.IntN(9)]
		x, y := 1+random.IntN(size), 1+random.IntN(size)
		for i := range b.Base {
			b.Base[i].X *= x
			b.Base[i].Y *= y
		}
		b.High *= 1 + random.IntN(size)
		b = moved(b, randomPoint(random, within))
		isOut := func(p api.Point) bool { return !isVector(vec(p.X, p.Y, 0)) }
		if b.High <= most && !slices.ContainsFunc(b.Base, isOut) {
			return b
		}
	}
}

func randomPoint(random *rand.Rand, size int) api.Vec {
	any := func() int { return random.IntN(2*size+1) - size }
	return vec(any(), any(), any())
}

// randomView has numbers of bodies and targets, and points within a size of the origin.
func randomView(random *rand.Rand, bodies, targets, size int) view {
	v := view{eye: randomPoint(random, size)}
	for range bodies {
		v.bodies = append(v.bodies, randomBody(random, 1+size*(1+random.IntN(3))/3, size))
	}
	for len(v.targets) < targets {
		if p := randomPoint(random, size); p != v.eye {
			v.targets = append(v.targets, api.Target{At: p, Weight: []int{1, mostWeight, 1 + random.IntN(mostWeight)}[random.IntN(3)]})
		}
	}
	return v
}

// views have from none to all bodies, from 1 to all targets, and are of all sizes.
func views() []view {
	var list []view
	random := rand.New(rand.NewPCG(9, 1))
	for _, size := range []int{2, 3, 5, 12, 60, 700, most} {
		for _, bodies := range []int{0, 1, 2, 3, 4, 6, 10, 20, mostBodies} {
			for _, targets := range []int{1, 2, 7, mostTargets} {
				list = append(list, randomView(random, bodies, targets, size))
			}
		}
	}
	for range 8 {
		v := randomView(random, 3, mostTargets, most)
		v.bodies = append(v.bodies, greatBodies()[2:]...)
		list = append(list, v)
	}
	great := randomView(random, 1, mostTargets, most)
	great.bodies = append(great.bodies, greatBodies()...)
	return append(list, great)
}

// grid has all points with coordinates from one number to another one.
func grid(from, to int) []api.Vec {
	var list []api.Vec
	for x := from; x <= to; x++ {
		for y := from; y <= to; y++ {
			for z := from; z <= to; z++ {
				list = append(list, vec(x, y, z))
			}
		}
	}
	return list
}

// notBodies are bodies that are not valid, by one condition each.
func notBodies() []api.Body {
	list := []api.Body{
		{}, {Low: 0, High: 3}, body(0, 3, 4, -1, 6, -1), body(0, 3, 4, -1, 5, 0, 6, 1), body(3, 3, 4, -1, 6, -1, 6, 1, 4, 1), body(3, 0, 4, -1, 6, -1, 6, 1, 4, 1),
		body(0, 3, 6, -1, 6, 1, 4, 1, 4, -1), body(0, 3, 4, -1, 4, 1, 6, 1, 6, -1), body(0, 3, 4, -1, 6, 1, 6, -1, 4, 1), body(0, 3, 4, -1, 5, -1, 6, -1, 6, 1, 4, 1), body(0, 3, 4, -1, 6, -1, 5, 0, 6, 1, 4, 1),
		body(0, 3, 0, 2, 1, 1, 2, 0, 4, -1, 6, 0, 7, 3, 6, 4, 5, 5, 1, 5), {Base: make([]api.Point, 100000), Low: 0, High: 3},
	}
	for _, n := range beyond {
		list = append(list, body(n, 3, 4, -1, 6, -1, 6, 1, 4, 1), body(0, n, 4, -1, 6, -1, 6, 1, 4, 1), body(0, 3, 4, -1, n, -1, n, 1, 4, 1), body(0, 3, 4, n, 6, n, 6, 1, 4, 1))
	}
	return list
}

// notPoints have one coordinate, or all, beyond the limits.
func notPoints() []api.Vec {
	var list []api.Vec
	for _, n := range beyond {
		list = append(list, vec(n, 0, 1), vec(0, n, 1), vec(0, 0, n), vec(n, n, n))
	}
	return list
}

func cloneBodies(bodies []api.Body) []api.Body {
	list := slices.Clone(bodies)
	for i := range list {
		list[i].Base = slices.Clone(list[i].Base)
	}
	return list
}

func equalBodies(a, b api.Body) bool {
	return slices.Equal(a.Base, b.Base) && a.Low == b.Low && a.High == b.High
}

func first(t *testing.T, eye, target api.Vec, bodies []api.Body) int {
	t.Helper()
	i, e := sight.First(eye, target, bodies)
	if e != api.OK {
		t.Fatalf("First(%v, %v, %v): %v", eye, target, bodies, e)
	}
	return i
}

func lines(t *testing.T, v view) []api.Line {
	t.Helper()
	list, e := sight.Lines(v.eye, v.targets, v.bodies)
	if e != api.OK {
		t.Fatalf("Lines of %v: %v", v, e)
	}
	return list
}

func check(t *testing.T, v view, list []api.Line) bool {
	t.Helper()
	is, e := sight.Check(v.eye, v.targets, v.bodies, list)
	if e != api.OK {
		t.Fatalf("Check of %v, %v: %v", v, list, e)
	}
	return is
}

func share(t *testing.T, targets []api.Target, list []api.Line) api.Rat {
	t.Helper()
	r, e := sight.Share(targets, list)
	if e != api.OK {
		t.Fatalf("Share(%v, %v): %v", targets, list, e)
	}
	return r
}
