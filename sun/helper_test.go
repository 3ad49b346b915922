package sun_test

import (
	"fmt"
	"math"
	"math/rand/v2"
	"slices"
	"testing"

	"barcarole/api"
	"barcarole/shape"
	"barcarole/sight"
	"barcarole/sun"
)

// The limits, written out: a test that took these from the program would follow its mistakes.
const (
	most        = 2000
	mostSuns    = 100
	mostBodies  = 60
	mostMinute  = 600000
	mostOfShare = 10000
	day         = 1440
)

// beyond are integers that are no coordinates: next to the limits, and those that a narrower type, a sum or a product
// would wrap into one.
var beyond = []int{most + 1, -most - 1, 2 * most, -2 * most, 1<<16 + 5, -1 << 31, 1 << 32, 1<<32 + 1, 7 - 1<<32, 1 << 62, math.MaxInt, math.MinInt, math.MinInt + 3}

// notMinutes are integers that are no minutes.
var notMinutes = []int{-1, -2, -day, -day - 1, mostMinute + 1, mostMinute + day, 1 << 32, 1<<32 + 720, 720 - 1<<32, math.MaxInt, math.MinInt}

// look is what Shaded and Glare are asked about; Shaded does not look at the target and the share.
type look struct {
	table       []api.Sun
	minute      int
	eye, target api.Vec
	share       api.Rat
	bodies      []api.Body
}

// text shows what a test that fails was about, of long lists only the first elements.
func (v look) text() string {
	table, bodies := v.table[:min(len(v.table), 5)], v.bodies[:min(len(v.bodies), 5)]
	return fmt.Sprintf("%d suns %v, minute %d, from %v to %v, share %v, %d bodies %v", len(v.table), table, v.minute, v.eye, v.target, v.share, len(v.bodies), bodies)
}

func vec(x, y, z int) api.Vec { return api.Vec{X: x, Y: y, Z: z} }

func rat(n, d int) api.Rat { return api.Rat{N: n, D: d} }

func plus(v, w api.Vec) api.Vec { return vec(v.X+w.X, v.Y+w.Y, v.Z+w.Z) }

func minus(v, w api.Vec) api.Vec { return plus(v, times(-1, w)) }

func times(n int, v api.Vec) api.Vec { return vec(n*v.X, n*v.Y, n*v.Z) }

func dot(v, w api.Vec) int { return v.X*w.X + v.Y*w.Y + v.Z*w.Z }

func isVector(v api.Vec) bool {
	return max(v.X, v.Y, v.Z) <= most && min(v.X, v.Y, v.Z) >= -most
}

// body makes a body from its heights and the coordinates of its corners.
func body(low, high int, coordinates ...int) api.Body {
	b := api.Body{Low: low, High: high}
	for pair := range slices.Chunk(coordinates, 2) {
		b.Base = append(b.Base, api.Point{X: pair[0], Y: pair[1]})
	}
	return b
}

// box is a body with four corners.
func box(from, to api.Vec) api.Body {
	return body(from.Z, to.Z, from.X, from.Y, to.X, from.Y, to.X, to.Y, from.X, to.Y)
}

// around is a body that holds a point, with its sides as far away as a number says.
func around(v api.Vec, size int) api.Body {
	return box(minus(v, vec(size, size, size)), plus(v, vec(size, size, size)))
}

// always is a table with one direction.
func always(dir api.Vec) []api.Sun { return []api.Sun{{From: 0, Dir: dir}} }

// example is the table of the document's examples.
func example() []api.Sun {
	return []api.Sun{{From: 300, Dir: vec(0, -100, 50)}, {From: 1200, Dir: vec(0, 100, -20)}}
}

// shade is the body of the document's examples.
func shade() api.Body { return box(vec(-5, -25, 0), vec(5, -15, 100)) }

func common(a, b int) int {
	for b != 0 {
		a, b = b, a%b
	}
	return max(a, -a)
}

// reduced is the number n / d, where d is above 0.
func reduced(n, d int) api.Rat { return rat(n/common(n, d), d/common(n, d)) }

// step is the shortest vector of a direction.
func step(dir api.Vec) api.Vec {
	n := common(dir.X, common(dir.Y, dir.Z))
	return vec(dir.X/n, dir.Y/n, dir.Z/n)
}

// less reports whether a number is below another one.
func less(s, t api.Rat) bool { return s.N*t.D < t.N*s.D }

// isTable is what the document requires of directions, with each element compared with each one ahead of it.
func isTable(l []api.Sun) bool {
	if len(l) < 1 || len(l) > mostSuns {
		return false
	}
	for i, s := range l {
		if s.From < 0 || s.From > 1439 || !isVector(s.Dir) || s.Dir == vec(0, 0, 0) {
			return false
		}
		for _, earlier := range l[:i] {
			if earlier.From >= s.From {
				return false
			}
		}
	}
	return true
}

func isShare(r api.Rat) bool {
	return 0 <= r.N && r.N <= r.D && 1 <= r.D && r.D <= mostOfShare && common(r.N, r.D) == 1
}

// directionOf asks all elements, from the first to the last.
func directionOf(table []api.Sun, minute int) api.Vec {
	dir := table[len(table)-1].Dir
	for _, s := range table {
		if s.From <= minute%day {
			dir = s.Dir
		}
	}
	return dir
}

func isUp(v look) bool { return directionOf(v.table, v.minute).Z > 0 }

// shadedOf is what the document requires of Shaded.
func shadedOf(v look) (bool, api.Errno) {
	if len(v.bodies) > mostBodies {
		return false, api.ErrLimit
	}
	isWrong := func(b api.Body) bool { return !shape.Valid(b) }
	if !isTable(v.table) || v.minute < 0 || v.minute > mostMinute || !isVector(v.eye) || slices.ContainsFunc(v.bodies, isWrong) {
		return false, api.ErrArg
	}
	if !isUp(v) {
		return true, api.OK
	}
	end := plus(v.eye, directionOf(v.table, v.minute))
	if !isVector(end) {
		return false, api.ErrRange
	}
	first, e := sight.First(v.eye, end, v.bodies)
	return first != -1, e
}

// glareOf is what the document requires of Glare.
func glareOf(v look) (bool, api.Errno) {
	shaded, e := shadedOf(v)
	switch {
	case e == api.ErrLimit || e == api.ErrArg:
		return false, e
	case !isVector(v.target) || !isShare(v.share):
		return false, api.ErrArg
	case !isUp(v) || v.target == v.eye:
		return false, api.OK
	case e == api.ErrRange || !isVector(minus(v.target, v.eye)):
		return false, api.ErrRange
	}
	dir, gaze := directionOf(v.table, v.minute), minus(v.target, v.eye)
	s := dot(dir, gaze)
	return !shaded && s > 0 && s*s*v.share.D >= v.share.N*dot(dir, dir)*dot(gaze, gaze), api.OK
}

// direction is what At answers.
func direction(t *testing.T, table []api.Sun, minute int) (api.Vec, bool) {
	t.Helper()
	dir, up, e := sun.At(table, minute)
	if e != api.OK {
		t.Fatalf("At(%v, %d): %v", table, minute, e)
	}
	return dir, up
}

func shaded(t *testing.T, v look) bool {
	t.Helper()
	is, e := sun.Shaded(v.table, v.minute, v.eye, v.bodies)
	if e != api.OK {
		t.Fatalf("Shaded of %s: %v", v.text(), e)
	}
	return is
}

func glare(t *testing.T, v look) bool {
	t.Helper()
	is, e := sun.Glare(v.table, v.minute, v.eye, v.target, v.share, v.bodies)
	if e != api.OK {
		t.Fatalf("Glare of %s: %v", v.text(), e)
	}
	return is
}

// checkLook finds whether Shaded and Glare answer as the document requires.
func checkLook(t *testing.T, v look) {
	t.Helper()
	want, wrong := shadedOf(v)
	if is, e := sun.Shaded(v.table, v.minute, v.eye, v.bodies); is != want || e != wrong {
		t.Errorf("Shaded of %s: %v, %v; want %v, %v", v.text(), is, e, want, wrong)
	}
	want, wrong = glareOf(v)
	if is, e := sun.Glare(v.table, v.minute, v.eye, v.target, v.share, v.bodies); is != want || e != wrong {
		t.Errorf("Glare of %s: %v, %v; want %v, %v", v.text(), is, e, want, wrong)
	}
}

func randomPoint(random *rand.Rand, size int) api.Vec {
	any := func() int { return random.IntN(2*size+1) - size }
	return vec(any(), any(), any())
}

// randomTable has a number of elements, with directions up to a size of which about two in three are up.
func randomTable(random *rand.Rand, n, size int) []api.Sun {
	froms := random.Perm(day)[:n]
	slices.Sort(froms)
	var list []api.Sun
	for _, from := range froms {
		dir := randomPoint(random, size)
		switch {
		case random.IntN(3) == 0:
			dir.Z = max(dir.Z, -dir.Z)
		case random.IntN(9) == 0:
			dir.Z = 0
		}
		if dir == vec(0, 0, 0) {
			dir.X = size
		}
		list = append(list, api.Sun{From: from, Dir: dir})
	}
	return list
}

// randomMinute is at an element of a table, or one minute away from it, or any one.
func randomMinute(random *rand.Rand, table []api.Sun) int {
	minute := table[random.IntN(len(table))].From + random.IntN(3) - 1 + day*random.IntN(417)
	if random.IntN(2) == 0 || minute < 0 || minute > mostMinute {
		return random.IntN(mostMinute + 1)
	}
	return minute
}

// randomTarget is in the direction of the sun, opposite, nearly there, the eye itself, or anywhere.
func randomTarget(random *rand.Rand, eye, dir api.Vec, size int) api.Vec {
	target := plus(eye, randomPoint(random, size))
	switch random.IntN(9) {
	case 0:
		target = eye
	case 1:
		target = plus(eye, dir)
	case 2:
		target = plus(eye, step(dir))
	case 3:
		target = minus(eye, step(dir))
	case 4, 5, 6:
		target = plus(plus(eye, dir), randomPoint(random, 1+size/4))
	}
	return vec(max(-most, min(target.X, most)), max(-most, min(target.Y, most)), max(-most, min(target.Z, most)))
}

func randomShare(random *rand.Rand) api.Rat {
	switch random.IntN(6) {
	case 0:
		return rat(0, 1)
	case 1:
		return rat(1, 1)
	case 2:
		return reduced(random.IntN(mostOfShare+1), mostOfShare)
	}
	d := 1 + random.IntN(20)
	return reduced(random.IntN(d+1), d)
}

// randomBody is near a way, so that about one in three blocks it.
func randomBody(random *rand.Rand, from, dir api.Vec, size int) api.Body {
	for {
		n := random.IntN(13) - 1
		v := plus(from, vec(dir.X*n/10, dir.Y*n/10, dir.Z*n/10))
		low := plus(v, randomPoint(random, 1+size/3))
		high := plus(low, plus(vec(1, 1, 1), randomPoint(random, 1+size/4)))
		if b := box(low, high); shape.Valid(b) {
			return b
		}
	}
}

func randomLook(random *rand.Rand, suns, bodies, size int) look {
	v := look{table: randomTable(random, suns, size), eye: randomPoint(random, size), share: randomShare(random)}
	v.minute = randomMinute(random, v.table)
	dir := directionOf(v.table, v.minute)
	v.target = randomTarget(random, v.eye, dir, size)
	for range bodies {
		v.bodies = append(v.bodies, randomBody(random, v.eye, dir, size))
	}
	return v
}

// looks have tables of 1 element to as many as there may be, from none to all bodies, and are of all sizes; of some of
// the largest, points are not valid.
func looks() []look {
	var list []look
	random := rand.New(rand.NewPCG(10, 1))
	for _, size := range []int{2, 3, 7, 30, 200, 660, most} {
		for _, suns := range []int{1, 2, 5, mostSuns} {
			for _, bodies := range []int{0, 0, 1, 1, 2, 3, 5, mostBodies} {
				for range 15 {
					list = append(list, randomLook(random, suns, bodies, size))
				}
			}
		}
	}
	return list
}

// validLooks are those for which Shaded and Glare have an answer.
func validLooks() []look {
	isWrong := func(v look) bool {
		_, e := shadedOf(v)
		_, f := glareOf(v)
		return e != api.OK || f != api.OK
	}
	return slices.DeleteFunc(looks(), isWrong)
}

func cloneBodies(bodies []api.Body) []api.Body {
	list := slices.Clone(bodies)
	for i := range list {
		list[i].Base = slices.Clone(list[i].Base)
	}
	return list
}

func equalBodies(a, b api.Body) bool {
	return slices.Equal(a.Base, b.Base) && a.Low == b.Low && a.High == b.High
}
