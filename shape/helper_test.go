package shape_test

import (
	"cmp"
	"math"
	"math/rand/v2"
	"slices"
	"testing"

	"barcarole/api"
	"barcarole/shape"
)

// The limits, written out: a test that took these from the program would follow its mistakes.
const (
	most        = 2000
	mostCorners = 8
)

var (
	zero = api.Rat{N: 0, D: 1}
	one  = api.Rat{N: 1, D: 1}
)

// beyond are integers that are no coordinates: next to the limits, and those that a narrower type, a sum or a product
// would wrap into one.
var beyond = []int{most + 1, -most - 1, most + 2, 2 * most, -2 * most, 1 << 16, 1<<16 + 5, -1 << 16, 1 << 31, -1 << 31, 1<<31 - 1, 1 << 32, 1<<32 + 1, 7 - 1<<32, 1 << 61, 1 << 62, 3 << 61, -1 << 62, math.MaxInt, math.MaxInt - 1, math.MinInt, math.MinInt + 1, math.MinInt + 3}

// base makes a base from the coordinates of its corners.
func base(coordinates ...int) []api.Point {
	var list []api.Point
	for i := 0; i < len(coordinates); i += 2 {
		list = append(list, api.Point{X: coordinates[i], Y: coordinates[i+1]})
	}
	return list
}

// body makes a body from its heights and the coordinates of its corners.
func body(low, high int, coordinates ...int) api.Body {
	return api.Body{Base: base(coordinates...), Low: low, High: high}
}

// box is a body with four corners.
func box(from, to api.Vec) api.Body {
	return body(from.Z, to.Z, from.X, from.Y, to.X, from.Y, to.X, to.Y, from.X, to.Y)
}

func vec(x, y, z int) api.Vec { return api.Vec{X: x, Y: y, Z: z} }

func plus(v, w api.Vec) api.Vec { return vec(v.X+w.X, v.Y+w.Y, v.Z+w.Z) }

func minus(v, w api.Vec) api.Vec { return vec(v.X-w.X, v.Y-w.Y, v.Z-w.Z) }

func times(v api.Vec, n int) api.Vec { return vec(v.X*n, v.Y*n, v.Z*n) }

// moved is a body as it has to be when it is moved.
func moved(b api.Body, by api.Vec) api.Body {
	m := api.Body{Low: b.Low + by.Z, High: b.High + by.Z}
	for _, p := range b.Base {
		m.Base = append(m.Base, api.Point{X: p.X + by.X, Y: p.Y + by.Y})
	}
	return m
}

func isVector(v api.Vec) bool {
	return max(v.X, v.Y, v.Z) <= most && min(v.X, v.Y, v.Z) >= -most
}

// area is above 0 if a point is strictly to the left of the way from p to q.
func area(p, q, r api.Point) int { return (q.X-p.X)*(r.Y-p.Y) - (q.Y-p.Y)*(r.X-p.X) }

func comparePoints(p, q api.Point) int { return cmp.Or(p.X-q.X, p.Y-q.Y) }

// hull has the corners of the least convex polygon that has all points, counterclockwise from the least one.
func hull(points []api.Point) []api.Point {
	sorted := slices.Clone(points)
	slices.SortFunc(sorted, comparePoints)
	sorted = slices.Compact(sorted)
	if len(sorted) < 3 {
		return sorted
	}
	half := func(list []api.Point) []api.Point {
		var chain []api.Point
		for _, r := range list {
			for len(chain) > 1 && area(chain[len(chain)-2], chain[len(chain)-1], r) <= 0 {
				chain = chain[:len(chain)-1]
			}
			chain = append(chain, r)
		}
		return chain[:len(chain)-1]
	}
	lower := half(sorted)
	slices.Reverse(sorted)
	return append(lower, half(sorted)...)
}

// isBody is what the document requires of Valid: a base is a valid one if it is the hull of its own corners.
func isBody(b api.Body) bool {
	for _, p := range b.Base {
		if !isVector(vec(p.X, p.Y, b.Low)) || !isVector(vec(p.X, p.Y, b.High)) {
			return false
		}
	}
	return 3 <= len(b.Base) && len(b.Base) <= mostCorners && b.Low < b.High && slices.Equal(b.Base, hull(b.Base))
}

func equalBodies(a, b api.Body) bool {
	return slices.Equal(a.Base, b.Base) && a.Low == b.Low && a.High == b.High
}

// brief is a body without the corners that are too many to be shown.
func brief(b api.Body) api.Body {
	b.Base = b.Base[:min(len(b.Base), 12)]
	return b
}

func isNoBody(b api.Body) bool { return len(b.Base) == 0 && b.Low == 0 && b.High == 0 }

// spot is the point of space with the coordinates x / d, y / d and z / d.
type spot struct{ x, y, z, d int }

// at is the point of a way with the part n / d.
func at(from, to api.Vec, n, d int) spot {
	return spot{from.X*d + (to.X-from.X)*n, from.Y*d + (to.Y-from.Y)*n, from.Z*d + (to.Z-from.Z)*n, d}
}

// isIn is what the document calls strictly inside.
func (s spot) isIn(b api.Body) bool {
	for i, p := range b.Base {
		q := b.Base[(i+1)%len(b.Base)]
		if (q.X-p.X)*(s.y-p.Y*s.d)-(q.Y-p.Y)*(s.x-p.X*s.d) <= 0 {
			return false
		}
	}
	return s.z > b.Low*s.d && s.z < b.High*s.d
}

func isIn(b api.Body, v api.Vec) bool { return spot{v.X, v.Y, v.Z, 1}.isIn(b) }

func common(a, b int) int {
	for b != 0 {
		a, b = b, a%b
	}
	return max(a, -a)
}

// less reports whether a number is below another one.
func less(s, t api.Rat) bool { return s.N*t.D < t.N*s.D }

// parts are those at which a way meets the plane of a side of a body, in order, with 0 and 1.
func parts(b api.Body, from, to api.Vec) []api.Rat {
	list := []api.Rat{zero, one}
	add := func(start, end int) {
		n, d := start, start-end
		if d < 0 {
			n, d = -n, -d
		}
		if 0 < n && n < d {
			list = append(list, api.Rat{N: n / common(n, d), D: d / common(n, d)})
		}
	}
	for i, p := range b.Base {
		q := b.Base[(i+1)%len(b.Base)]
		add(area(p, q, api.Point{X: from.X, Y: from.Y}), area(p, q, api.Point{X: to.X, Y: to.Y}))
	}
	add(from.Z-b.Low, to.Z-b.Low)
	add(from.Z-b.High, to.Z-b.High)
	slices.SortFunc(list, func(s, t api.Rat) int { return s.N*t.D - t.N*s.D })
	return slices.Compact(list)
}

// clipOf is what the document requires of Clip: it asks for one point between each two neighbouring parts.
func clipOf(b api.Body, from, to api.Vec) (low, high api.Rat, is bool) {
	low, high = zero, zero
	list := parts(b, from, to)
	for i, t := range list[1:] {
		s := list[i]
		if !at(from, to, s.N+t.N, s.D+t.D).isIn(b) {
			continue
		}
		if !is {
			low = s
		}
		high, is = t, true
	}
	return low, high, is
}

// meet reports whether a point is strictly inside both bodies: then an edge of one base goes through the other one, or
// the bases are equal.
func meet(a, b api.Body) bool {
	if max(a.Low, b.Low) >= min(a.High, b.High) {
		return false
	}
	goes := func(from, to []api.Point) bool {
		flat := api.Body{Base: to, Low: -1, High: 1}
		for i, p := range from {
			q := from[(i+1)%len(from)]
			if _, _, is := clipOf(flat, vec(p.X, p.Y, 0), vec(q.X, q.Y, 0)); is {
				return true
			}
		}
		return false
	}
	return slices.Equal(a.Base, b.Base) || goes(a.Base, b.Base) || goes(b.Base, a.Base)
}

// example is the body of the document's examples.
func example() api.Body { return box(vec(0, 0, 0), vec(10, 10, 10)) }

// thin is a base whose area is half a unit, though it reaches from one end to the other.
func thin() []api.Point { return base(-most, -most, most, most-1, 1-most, 1-most) }

// knownBodies have bases from 3 to 8 corners, at the limits, thin, flat, or as great as can be.
func knownBodies() []api.Body {
	return []api.Body{
		example(), box(vec(0, 0, 0), vec(1, 1, 1)), box(vec(-most, -most, -most), vec(most, most, most)), box(vec(-3, -most, 5), vec(2, most, 6)),
		body(-2, 3, 0, 0, 4, 0, 0, 4), body(0, 6, 0, 3, 6, 0, 3, 6), body(-most, most, -most, -most, most, -most, -most, most), body(most-1, most, most-1, most, most, most-1, most, most),
		body(-most, 1-most, -most, -most, 1-most, -most, -most, 1-most), {Base: thin(), Low: -1, High: 1}, {Base: thin(), Low: -most, High: most},
		body(0, 10, 0, 3, 3, 0, 7, 0, 10, 3, 10, 7, 7, 10, 3, 10, 0, 7), body(-7, 9, -5, -2, 0, -5, 5, -2, 5, 3, 0, 6), body(0, 2, -4, 0, -2, -3, 2, -3, 4, 0, 2, 3, -2, 3),
		body(-most, most, -most, -700, -700, -most, 700, -most, most, -700, most, 700, 700, most, -700, most, -most, 700),
		body(-5, 5, -most, 0, 0, -most, most, 0, 0, most), body(1, 4, 0, 0, 3, -3, 8, -4, 12, -2, 13, 2, 9, 5, 3, 4), body(-9, -8, -3, 0, 0, -1, 3, 0, 0, 1),
		body(3, 8, -most, -most, 1-most, -most, most, most, most-1, most), body(0, 1500, -1999, 17, -1998, 16, 1311, -1873, 1999, -1), body(0, 7, -6, 2, -5, -4, -1, -7, 4, -6, 7, -1, 5, 5, 0, 7, -4, 6),
	}
}

// randomBody has corners in a square of a size, and up to 8 of them.
func randomBody(random *rand.Rand, size int) api.Body {
	any := func() int { return random.IntN(2*size+1) - size }
	for {
		var points []api.Point
		for range 3 + random.IntN(20) {
			x, y := any(), any()
			if x*x+y*y <= size*size*5/4 { // few points near the corners of the square: hulls have more corners
				points = append(points, api.Point{X: x, Y: y})
			}
		}
		list := hull(points)
		for len(list) > mostCorners {
			i := 1 + random.IntN(len(list)-1)
			list = slices.Delete(list, i, i+1)
		}
		low, high := any(), any()
		if len(list) >= 3 && low < high {
			return api.Body{Base: list, Low: low, High: high}
		}
	}
}

// bodies are the known ones, and others of all sizes.
func bodies() []api.Body {
	list := knownBodies()
	random := rand.New(rand.NewPCG(8, 1))
	for i := range 35 {
		list = append(list, randomBody(random, []int{2, 4, 9, 60, 700, most - 1, most}[i%7]))
	}
	return list
}

// stars go round more than once, or along crossing edges: at each corner they turn to the left.
func stars() [][]api.Point {
	five := base(-5, -2, 0, -5, 5, -2, 5, 3, 0, 6)
	seven := base(0, 0, 3, -3, 8, -4, 12, -2, 13, 2, 9, 5, 3, 4)
	eight := base(0, 3, 3, 0, 7, 0, 10, 3, 10, 7, 7, 10, 3, 10, 0, 7)
	var list [][]api.Point
	for _, s := range []struct {
		corners []api.Point
		step    int
	}{{five, 2}, {five, 3}, {seven, 2}, {seven, 3}, {seven, 4}, {seven, 5}, {eight, 3}, {eight, 5}} {
		var star []api.Point
		for i := range s.corners {
			star = append(star, s.corners[i*s.step%len(s.corners)])
		}
		list = append(list, star)
	}
	three, four := base(0, 0, 4, 0, 0, 4), base(0, 0, 4, 0, 4, 4, 0, 4)
	return append(list, slices.Concat(three, three), slices.Concat(four, four), slices.Concat(three, three[:1]), slices.Concat(four, four[:2]), slices.Concat(five, five[:3]))
}

// notBases are no bases of valid bodies: too few or too many corners, equal ones, three on one line, not convex, more
// than once around, the other way around, or from another corner.
func notBases() [][]api.Point {
	list := [][]api.Point{
		nil, {}, base(0, 0), base(0, 0, 4, 0), base(0, 0, 0, 0),
		base(0, 0, 0, 0, 0, 0), base(0, 0, 0, 0, 0, 0, 0, 0), base(0, 0, 4, 0, 0, 0), base(0, 0, 4, 0, 4, 0), base(0, 0, 0, 0, 4, 4), base(0, 0, 4, 0, 0, 0, 4, 0), base(0, 0, 4, 0, 0, 4, 0, 4), base(0, 0, 0, 0, 4, 0, 0, 4), base(0, 0, 4, 0, 4, 0, 0, 4), base(0, 0, 4, 0, 0, 0, 0, 4), base(0, 0, 4, 0, 0, 4, 0, 0),
		base(0, 0, 2, 0, 4, 0), base(0, 0, 4, 0, 2, 0), base(0, 0, 0, 2, 0, 4), base(0, 0, 1, 1, 2, 2, 3, 3), base(0, 0, 2, 0, 4, 0, 0, 4), base(0, 0, 4, 0, 2, 2, 0, 4), base(0, 0, 4, 0, 0, 4, 0, 2), base(0, 0, 4, 0, 2, 0, 0, 4), base(-most, -most, 0, 0, most, most),
		base(0, 0, 4, 0, 1, 1, 0, 4), base(0, 0, 2, 1, 4, 0, 2, 4), base(0, 0, 4, 0, 4, 4, 3, 1), base(0, 0, 6, 0, 6, 6, 3, 2, 0, 6), base(0, 0, 4, 4, 4, 0, 0, 4), base(0, 0, 4, 0, 0, 4, 4, 4), base(0, 0, 4, 0, 0, 4, 1, 1), base(0, 0, 1, 1, 4, 0, 0, 4),
		base(0, 0, 0, 4, 4, 0), base(0, 0, 0, 4, 4, 4, 4, 0), base(-most, -most, 1-most, 1-most, most, most-1),
		base(-5, 0, -4, -3, -1, -5, 2, -5, 5, -3, 6, 0, 5, 3, 2, 5, -3, 4), base(-50, 0, -40, -30, -30, -40, 0, -50, 30, -40, 40, -30, 50, 0, 40, 30, 0, 50, -40, 30),
	}
	list = append(list, stars()...)
	for _, b := range knownBodies() {
		n := len(b.Base)
		for i := 1; i < n; i++ {
			list = append(list, slices.Concat(b.Base[i:], b.Base[:i]))
		}
		for i := range n {
			around := slices.Concat(b.Base[i:], b.Base[:i])
			slices.Reverse(around)
			list = append(list, around)
			if n < mostCorners {
				list = append(list, slices.Insert(slices.Clone(b.Base), i+1, b.Base[i]), slices.Insert(slices.Clone(b.Base), i, b.Base[(i+2)%n]))
			}
		}
	}
	var round []api.Point // 40 corners, of which any 8 would be a base
	for x := -10; x <= 10; x++ {
		round = append(round, api.Point{X: x, Y: x * x}, api.Point{X: x, Y: 201 - x*x})
	}
	for _, n := range []int{9, 10, 16, 24, 40} {
		list = append(list, hull(round)[:n])
	}
	return append(list, make([]api.Point, 100000))
}

// notBodies are bodies that are not valid, by one condition each, or by several.
func notBodies() []api.Body {
	var list []api.Body
	for _, points := range notBases() {
		list = append(list, api.Body{Base: points, Low: 0, High: 10}, api.Body{Base: points, Low: 10, High: 0})
	}
	corners := base(0, 0, 4, 0, 4, 4, 0, 4)
	for _, n := range beyond {
		list = append(list, api.Body{Base: corners, Low: n, High: 10}, api.Body{Base: corners, Low: 0, High: n}, api.Body{Base: corners, Low: n, High: n}, api.Body{Base: corners, Low: -n, High: n}, api.Body{Base: corners, Low: n, High: n + 1})
		for i := range corners {
			for _, p := range []api.Point{{X: n, Y: corners[i].Y}, {X: corners[i].X, Y: n}, {X: n, Y: n}} {
				wrong := slices.Clone(corners)
				wrong[i] = p
				list = append(list, api.Body{Base: wrong, Low: 0, High: 10})
				if -1<<20 < n && n < 1<<20 { // so that hull computes right
					list = append(list, api.Body{Base: hull(wrong), Low: 0, High: 10})
				}
			}
		}
		list = append(list, body(0, 10, 0, 0, n, 0, 0, n), body(0, 10, n, n, 0, n, n, 0), body(0, 10, -n, -n, n, -n, 0, n), body(n, n+1, n, n, n+1, n, n, n+1))
	}
	for _, h := range []int{-most, -1, 0, 1, most} {
		list = append(list, api.Body{Base: corners, Low: h, High: h}, api.Body{Base: corners, Low: h, High: -most}, api.Body{Base: corners, Low: most, High: h})
	}
	return append(list, api.Body{}, api.Body{Low: 0, High: 10}, api.Body{Base: corners, Low: 5, High: 4})
}

// notPoints have one coordinate, or all, beyond the limits.
func notPoints() []api.Vec {
	var list []api.Vec
	for _, n := range beyond {
		list = append(list, vec(n, 5, 5), vec(5, n, 5), vec(5, 5, n), vec(n, n, n), vec(n, -most, most))
	}
	return list
}

// heights are those at the bottom and the top of a body, next to them and between them, as far as they are in range.
func heights(b api.Body) []int {
	list := []int{b.Low - 1, b.Low, b.Low + 1, (b.Low + b.High) / 2, b.High - 1, b.High, b.High + 1, most, -most}
	slices.Sort(list)
	return slices.DeleteFunc(slices.Compact(list), func(z int) bool { return z < -most || z > most })
}

// flatPoints are the corners of a base, what is next to them, between them and on the line of two of them, and others.
func flatPoints(b api.Body) []api.Point {
	list := base(most, most, -most, -most, most, -most, 0, 0)
	sum := api.Point{}
	for i, p := range b.Base {
		q, r := b.Base[(i+1)%len(b.Base)], b.Base[(i+2)%len(b.Base)]
		list = append(list, p, api.Point{X: (p.X + q.X) / 2, Y: (p.Y + q.Y) / 2}, api.Point{X: (p.X + r.X) / 2, Y: (p.Y + r.Y) / 2}, api.Point{X: 2*q.X - p.X, Y: 2*q.Y - p.Y})
		list = append(list, api.Point{X: p.X + 1, Y: p.Y}, api.Point{X: p.X, Y: p.Y - 1}, api.Point{X: p.X - 1, Y: p.Y + 1})
		g := common(q.X-p.X, q.Y-p.Y)
		list = append(list, api.Point{X: p.X + (q.X-p.X)/g, Y: p.Y + (q.Y-p.Y)/g}, api.Point{X: p.X - (q.X-p.X)/g, Y: p.Y - (q.Y-p.Y)/g})
		sum = api.Point{X: sum.X + p.X, Y: sum.Y + p.Y}
	}
	list = append(list, api.Point{X: sum.X / len(b.Base), Y: sum.Y / len(b.Base)})
	slices.SortFunc(list, comparePoints)
	return slices.DeleteFunc(slices.Compact(list), func(p api.Point) bool { return !isVector(vec(p.X, p.Y, 0)) })
}

// pointsFor are points inside, on the border and outside of a body.
func pointsFor(b api.Body) []api.Vec {
	var list []api.Vec
	for _, p := range flatPoints(b) {
		for _, z := range heights(b) {
			list = append(list, vec(p.X, p.Y, z))
		}
	}
	return list
}

// grid has all points with coordinates from one number to another one.
func grid(from, to int) []api.Vec {
	var list []api.Vec
	for x := from; x <= to; x++ {
		for y := from; y <= to; y++ {
			for z := from; z <= to; z++ {
				list = append(list, vec(x, y, z))
			}
		}
	}
	return list
}

// smallBases are all bases with corners in a square of a size.
func smallBases(size int) [][]api.Point {
	var points []api.Point
	for x := range size {
		for y := range size {
			points = append(points, api.Point{X: x, Y: y})
		}
	}
	var list [][]api.Point
	for set := range 1 << len(points) {
		var chosen []api.Point
		for i, p := range points {
			if set>>i&1 == 1 {
				chosen = append(chosen, p)
			}
		}
		if corners := hull(chosen); len(corners) == len(chosen) && 3 <= len(corners) && len(corners) <= mostCorners {
			list = append(list, corners)
		}
	}
	return list
}

func inside(t *testing.T, b api.Body, v api.Vec) bool {
	t.Helper()
	is, e := shape.Inside(b, v)
	if e != api.OK {
		t.Fatalf("Inside(%v, %v): %v", b, v, e)
	}
	return is
}

func move(t *testing.T, b api.Body, by api.Vec) api.Body {
	t.Helper()
	m, e := shape.Move(b, by)
	if e != api.OK {
		t.Fatalf("Move(%v, %v): %v", b, by, e)
	}
	return m
}

func clip(t *testing.T, b api.Body, from, to api.Vec) (low, high api.Rat, is bool) {
	t.Helper()
	low, high, is, e := shape.Clip(b, from, to)
	if e != api.OK {
		t.Fatalf("Clip(%v, %v, %v): %v", b, from, to, e)
	}
	return low, high, is
}

func apart(t *testing.T, a, b api.Body) bool {
	t.Helper()
	is, e := shape.Apart(a, b)
	if e != api.OK {
		t.Fatalf("Apart(%v, %v): %v", a, b, e)
	}
	return is
}

// checkClip finds whether a clip is the one that the document requires, and returns whether there is one.
func checkClip(t *testing.T, b api.Body, from, to api.Vec) bool {
	t.Helper()
	low, high, is := clip(t, b, from, to)
	if wantLow, wantHigh, want := clipOf(b, from, to); low != wantLow || high != wantHigh || is != want {
		t.Errorf("Clip(%v, %v, %v): %v, %v, %v; want %v, %v, %v", b, from, to, low, high, is, wantLow, wantHigh, want)
	}
	return is
}

// checkApart finds whether two bodies are apart as the document requires, and returns whether they are.
func checkApart(t *testing.T, a, b api.Body) bool {
	t.Helper()
	is := apart(t, a, b)
	if is == meet(a, b) {
		t.Errorf("Apart(%v, %v): %v", a, b, is)
	}
	return is
}
