package scene_test

import (
	"fmt"
	"math"
	"math/rand/v2"
	"slices"
	"testing"

	"barcarole/api"
	"barcarole/scene"
	"barcarole/shape"
)

// The limits, written out: a test that took these from the program would follow its mistakes.
const (
	most        = 2000
	mostRat     = 1000000000
	mostScenes  = 20
	mostTargets = 60
	mostBodies  = 60
	mostMinutes = 600
	allWeights  = 100
)

// beyond are integers that are no coordinates: next to the limits, and those that a narrower type, a sum or a product
// would wrap into one.
var beyond = []int{most + 1, -most - 1, 2 * most, 1<<16 + 5, -1 << 31, 1 << 32, 1<<32 + 1, 7 - 1<<32, math.MaxInt, math.MinInt, math.MinInt + 3}

// look is what the functions are asked about.
type look struct {
	play   api.Play
	eye    api.Vec
	others []api.Body
}

// text shows what a test that fails was about, of long lists only the first elements.
func (v look) text() string {
	s := fmt.Sprintf("from %v past %d bodies %v and %d of the set %v:", v.eye, len(v.others), v.others[:min(len(v.others), 2)], len(v.play.Set), v.play.Set[:min(len(v.play.Set), 2)])
	for i, c := range v.play.Scenes[:min(len(v.play.Scenes), 3)] {
		s += fmt.Sprintf(" scene %d of %d: %d minutes, %d bodies %v, %d targets %v;", i, len(v.play.Scenes), c.Minutes, len(c.Bodies), c.Bodies[:min(len(c.Bodies), 2)], len(c.Targets), c.Targets[:min(len(c.Targets), 3)])
	}
	return s
}

func vec(x, y, z int) api.Vec { return api.Vec{X: x, Y: y, Z: z} }

func rat(n, d int) api.Rat { return api.Rat{N: n, D: d} }

func plus(v, w api.Vec) api.Vec { return vec(v.X+w.X, v.Y+w.Y, v.Z+w.Z) }

func minus(v, w api.Vec) api.Vec { return vec(v.X-w.X, v.Y-w.Y, v.Z-w.Z) }

func isVector(v api.Vec) bool {
	return max(v.X, v.Y, v.Z) <= most && min(v.X, v.Y, v.Z) >= -most
}

// body makes a body from its heights and the coordinates of its corners.
func body(low, high int, coordinates ...int) api.Body {
	b := api.Body{Low: low, High: high}
	for pair := range slices.Chunk(coordinates, 2) {
		b.Base = append(b.Base, api.Point{X: pair[0], Y: pair[1]})
	}
	return b
}

// box is a body with four corners.
func box(from, to api.Vec) api.Body {
	return body(from.Z, to.Z, from.X, from.Y, to.X, from.Y, to.X, to.Y, from.X, to.Y)
}

// around is a body that holds a point, with its sides as far away as a number says.
func around(v api.Vec, size int) api.Body {
	return box(minus(v, vec(size, size, size)), plus(v, vec(size, size, size)))
}

func bodies(list ...api.Body) []api.Body { return list }

// straight and aside are the two targets of the document's examples, which are looked at from the origin.
func straight(weight int) api.Target { return api.Target{At: vec(100, 0, 0), Weight: weight} }

func aside(weight int) api.Target { return api.Target{At: vec(100, 40, 0), Weight: weight} }

// front stands before straight alone (it is B of the document's examples), side before aside alone, wall before both, and
// the other ones before neither of them.
func front() api.Body { return box(vec(50, -5, -5), vec(60, 5, 5)) }

func side() api.Body { return box(vec(45, 15, -5), vec(55, 25, 5)) }

func wall() api.Body { return box(vec(70, -10, -5), vec(80, 50, 5)) }

func behind() api.Body { return box(vec(100, -10, -5), vec(110, 50, 5)) }

func beside() api.Body { return box(vec(50, -30, -5), vec(60, -20, 5)) }

// example is the piece of the document's examples.
func example() api.Play {
	return api.Play{Scenes: []api.Scene{{Minutes: 10, Targets: []api.Target{straight(60), aside(40)}}}}
}

// part is a scene of which some hundredths are seen from the origin.
func part(minutes, seen int) api.Scene {
	s := api.Scene{Minutes: minutes, Bodies: bodies(front())}
	if seen < allWeights {
		s.Targets = append(s.Targets, straight(allWeights-seen))
	}
	if seen > 0 {
		s.Targets = append(s.Targets, aside(seen))
	}
	return s
}

// targets are at different points around straight, of weights that add up to 100.
func targets(n int) []api.Target {
	var list []api.Target
	for i := range n {
		list = append(list, api.Target{At: vec(100, i, i%7), Weight: 1})
	}
	list[n-1].Weight = allWeights - n + 1
	return list
}

// full is a piece with as much of everything as there may be; of it all is seen from the origin.
func full() api.Play {
	p := api.Play{Set: slices.Repeat(bodies(behind()), 20)}
	for range mostScenes {
		p.Scenes = append(p.Scenes, api.Scene{Minutes: mostMinutes, Bodies: slices.Repeat(bodies(beside()), 40), Targets: targets(mostTargets)})
	}
	return p
}

func common(a, b int) int {
	for b != 0 {
		a, b = b, a%b
	}
	return max(a, -a)
}

// reduced is the number n / d, where d is above 0.
func reduced(n, d int) api.Rat { return rat(n/common(n, d), d/common(n, d)) }

// compare has the sign of the difference of two numbers.
func compare(s, t api.Rat) int { return s.N*t.D - t.N*s.D }

// isNumber is what layer 1 calls valid.
func isNumber(r api.Rat) bool {
	return 1 <= r.D && r.D <= mostRat && -mostRat <= r.N && r.N <= mostRat && common(r.N, r.D) == 1
}

func areBodies(list []api.Body) bool {
	for _, b := range list {
		if !shape.Valid(b) {
			return false
		}
	}
	return true
}

// areTargets is what the document requires of the targets of a scene.
func areTargets(list []api.Target) bool {
	if len(list) < 1 || len(list) > mostTargets {
		return false
	}
	left := allWeights
	for _, t := range list {
		if t.Weight < 1 || t.Weight > left || !isVector(t.At) {
			return false
		}
		left -= t.Weight
	}
	return left == 0
}

// isPlay is what the document requires of a piece.
func isPlay(p api.Play) bool {
	if len(p.Scenes) < 1 || len(p.Scenes) > mostScenes || !areBodies(p.Set) {
		return false
	}
	for _, s := range p.Scenes {
		if s.Minutes < 1 || s.Minutes > 600 || !areTargets(s.Targets) || !areBodies(s.Bodies) || len(p.Set)+len(s.Bodies) > mostBodies {
			return false
		}
	}
	return true
}

// errorOf is the error that the document requires of a look.
func errorOf(v look) api.Errno {
	if !isPlay(v.play) || !isVector(v.eye) || !areBodies(v.others) {
		return api.ErrArg
	}
	most := 0
	for _, s := range v.play.Scenes {
		for _, t := range s.Targets {
			if t.At == v.eye {
				return api.ErrArg
			}
		}
		most = max(most, len(v.play.Set)+len(s.Bodies)+len(v.others))
	}
	if most > mostBodies {
		return api.ErrLimit
	}
	return api.OK
}

// isSeen asks each body by itself whether it clips the way.
func isSeen(eye, point api.Vec, lists ...[]api.Body) bool {
	for _, list := range lists {
		for _, b := range list {
			if _, _, blocks, _ := shape.Clip(b, eye, point); blocks {
				return false
			}
		}
	}
	return true
}

// seenOf is what is seen of each scene, in hundredths.
func seenOf(v look) []int {
	var list []int
	for _, s := range v.play.Scenes {
		seen := 0
		for _, t := range s.Targets {
			if isSeen(v.eye, t.At, v.others, s.Bodies, v.play.Set) {
				seen += t.Weight
			}
		}
		list = append(list, seen)
	}
	return list
}

// answer has what the functions return.
type answer struct {
	shares []api.Rat
	total  api.Rat
	worst  api.Rat
	scene  int
}

// answerOf is what the document requires of a piece of which some hundredths of each scene are seen.
func answerOf(p api.Play, seen []int) answer {
	var a answer
	sum, all := 0, 0
	for i, s := range p.Scenes {
		a.shares = append(a.shares, reduced(seen[i], allWeights))
		sum += seen[i] * s.Minutes
		all += s.Minutes
	}
	a.total = reduced(sum, all*allWeights)
	a.worst = reduced(slices.Min(seen), allWeights)
	a.scene = slices.Index(seen, slices.Min(seen))
	return a
}

// ask is what the functions answer.
func ask(t *testing.T, v look) answer {
	t.Helper()
	var a answer
	var e, f, g api.Errno
	a.shares, e = scene.Shares(v.play, v.eye, v.others)
	a.total, f = scene.Total(v.play, v.eye, v.others)
	a.worst, a.scene, g = scene.Worst(v.play, v.eye, v.others)
	if e != api.OK || f != api.OK || g != api.OK {
		t.Fatalf("%s errors %v, %v, %v", v.text(), e, f, g)
	}
	return a
}

func keeps(t *testing.T, v look, r api.Rat) bool {
	t.Helper()
	is, e := scene.Keeps(v.play, v.eye, v.others, r)
	if e != api.OK {
		t.Fatalf("Keeps %v, %s error %v", r, v.text(), e)
	}
	return is
}

func equalAnswers(a, b answer) bool {
	return slices.Equal(a.shares, b.shares) && a.total == b.total && a.worst == b.worst && a.scene == b.scene
}

// checkSeen finds whether the functions answer that some hundredths of each scene are seen.
func checkSeen(t *testing.T, v look, seen ...int) {
	t.Helper()
	want := answerOf(v.play, seen)
	if got := ask(t, v); !equalAnswers(got, want) {
		t.Errorf("%s %v; want %v", v.text(), got, want)
	}
	for _, r := range []api.Rat{want.total, want.worst, rat(0, 1), rat(1, 2), rat(1, 1), rat(-1, 3), rat(1000001, 1000000)} {
		if is := keeps(t, v, r); is != (compare(want.total, r) >= 0) {
			t.Errorf("%s Keeps %v: %v, total %v", v.text(), r, is, want.total)
		}
	}
}

// checkError finds whether all functions refuse a look with an error, and return nothing else.
func checkError(t *testing.T, v look, want api.Errno) {
	t.Helper()
	list, e := scene.Shares(v.play, v.eye, v.others)
	total, f := scene.Total(v.play, v.eye, v.others)
	worst, i, g := scene.Worst(v.play, v.eye, v.others)
	is, h := scene.Keeps(v.play, v.eye, v.others, rat(0, 1))
	if e != want || f != want || g != want || h != want {
		t.Errorf("%s errors %v, %v, %v, %v; want %v", v.text(), e, f, g, h, want)
	}
	if len(list) != 0 || total != rat(0, 0) || worst != rat(0, 0) || i != 0 || is {
		t.Errorf("%s with an error: %v, %v, %v, %d, %v", v.text(), list, total, worst, i, is)
	}
}

// checkLook finds whether the functions answer as the document requires.
func checkLook(t *testing.T, v look) {
	t.Helper()
	if e := errorOf(v); e != api.OK {
		checkError(t, v, e)
		return
	}
	checkSeen(t, v, seenOf(v)...)
}

func randomPoint(random *rand.Rand, size int) api.Vec {
	any := func() int { return random.IntN(2*size+1) - size }
	return vec(any(), any(), any())
}

// randomTargets are at points other than the eye, of weights that add up to 100.
func randomTargets(random *rand.Rand, n, size int, eye api.Vec) []api.Target {
	ends := random.Perm(allWeights - 1)[:n-1]
	slices.Sort(ends)
	ends = append(ends, allWeights-1)
	var list []api.Target
	last := -1
	for _, end := range ends {
		point := randomPoint(random, size)
		for point == eye {
			point = randomPoint(random, size)
		}
		list = append(list, api.Target{At: point, Weight: end - last})
		last = end
	}
	return list
}

// randomBody is near the way to a point, rarely around the eye, and has three to six corners.
func randomBody(random *rand.Rand, eye, point api.Vec, size int) api.Body {
	for {
		n := 1 + random.IntN(11)
		way := minus(point, eye)
		v := plus(plus(eye, vec(way.X*n/10, way.Y*n/10, way.Z*n/10)), randomPoint(random, 1+size/6))
		w := 1 + random.IntN(1+size/10)
		b := []api.Body{
			around(v, w), body(v.Z-w, v.Z+w, v.X-w, v.Y, v.X+w, v.Y-w, v.X, v.Y+2*w), body(v.Z, v.Z+w, v.X-w, v.Y, v.X, v.Y-w, v.X+w, v.Y, v.X, v.Y+w),
			body(v.Z-w, v.Z, v.X-2*w, v.Y, v.X-w, v.Y-w, v.X+w, v.Y-w, v.X+2*w, v.Y, v.X+w, v.Y+w, v.X-w, v.Y+w),
		}[random.IntN(4)]
		isIn, e := shape.Inside(b, eye)
		if e == api.OK && (!isIn || random.IntN(20) == 0) {
			return b
		}
	}
}

func randomMinutes(random *rand.Rand) int {
	return []int{1, mostMinutes, 1 + random.IntN(9), 1 + random.IntN(mostMinutes)}[random.IntN(4)]
}

// randomLook has numbers of scenes, of targets of each, and of bodies for each, which are divided among Set, the scenes
// and the further ones.
func randomLook(random *rand.Rand, scenes, targets, count, size int) look {
	v := look{eye: randomPoint(random, size)}
	set, further := random.IntN(count/2+1), random.IntN(count/2+1)
	for range scenes {
		v.play.Scenes = append(v.play.Scenes, api.Scene{Minutes: randomMinutes(random), Targets: randomTargets(random, targets, size, v.eye)})
	}
	some := func(s api.Scene, n int) []api.Body {
		var list []api.Body
		for range n {
			list = append(list, randomBody(random, v.eye, s.Targets[random.IntN(targets)].At, size))
		}
		return list
	}
	any := func() api.Scene { return v.play.Scenes[random.IntN(scenes)] }
	v.play.Set, v.others = some(any(), set), some(any(), further)
	for i, s := range v.play.Scenes {
		n := count - set - further
		if i > 0 {
			n = random.IntN(n + 1)
		}
		v.play.Scenes[i].Bodies = some(s, n)
	}
	return v
}

// looks have from 1 scene to as many as there may be, and so on, and are of all sizes.
func looks() []look {
	var list []look
	random := rand.New(rand.NewPCG(11, 1))
	for _, size := range []int{3, 8, 40, 300, most} {
		for _, scenes := range []int{1, 2, 3, 5} {
			for _, targets := range []int{1, 2, 5, 12} {
				for _, bodies := range []int{0, 1, 2, 4, 7, 12} {
					list = append(list, randomLook(random, scenes, targets, bodies, size))
				}
			}
		}
		list = append(list, randomLook(random, mostScenes, 2, 1, size), randomLook(random, mostScenes, 3, 5, size), randomLook(random, 2, mostTargets, 6, size), randomLook(random, 2, 9, mostBodies, size))
	}
	return append(list, randomLook(random, mostScenes, mostTargets, mostBodies, most))
}

func cloneBodies(list []api.Body) []api.Body {
	list = slices.Clone(list)
	for i := range list {
		list[i].Base = slices.Clone(list[i].Base)
	}
	return list
}

func clonePlay(p api.Play) api.Play {
	c := api.Play{Set: cloneBodies(p.Set)}
	for _, s := range p.Scenes {
		c.Scenes = append(c.Scenes, api.Scene{Minutes: s.Minutes, Bodies: cloneBodies(s.Bodies), Targets: slices.Clone(s.Targets)})
	}
	return c
}

func cloneLook(v look) look { return look{clonePlay(v.play), v.eye, cloneBodies(v.others)} }

func equalBodies(a, b []api.Body) bool {
	return slices.EqualFunc(a, b, func(a, b api.Body) bool {
		return slices.Equal(a.Base, b.Base) && a.Low == b.Low && a.High == b.High
	})
}

func equalPlays(p, q api.Play) bool {
	return equalBodies(p.Set, q.Set) && slices.EqualFunc(p.Scenes, q.Scenes, func(s, t api.Scene) bool {
		return s.Minutes == t.Minutes && equalBodies(s.Bodies, t.Bodies) && slices.Equal(s.Targets, t.Targets)
	})
}

// notBodies are bodies that are not valid.
func notBodies() []api.Body {
	list := bodies(api.Body{}, body(3, 3, 4, -1, 6, -1, 6, 1, 4, 1), body(3, 0, 4, -1, 6, -1, 6, 1, 4, 1), body(0, 3, 4, -1, 6, -1), body(0, 3, 6, -1, 6, 1, 4, 1, 4, -1), body(0, 3, 4, -1, 4, 1, 6, 1, 6, -1), body(0, 3, 0, 2, 1, 1, 2, 0, 4, -1, 6, 0, 7, 3, 6, 4, 5, 5, 1, 5), api.Body{Base: make([]api.Point, 100000), Low: 0, High: 3})
	for _, n := range beyond {
		list = append(list, body(0, n, 4, -1, 6, -1, 6, 1, 4, 1), body(n, 3, 4, -1, 6, -1, 6, 1, 4, 1), body(0, 3, 4, n, 6, n, 6, 1, 4, 1))
	}
	return list
}

// notPoints have one coordinate, or all, beyond the limits.
func notPoints() []api.Vec {
	var list []api.Vec
	for _, n := range beyond {
		list = append(list, vec(n, 0, 1), vec(0, n, 1), vec(0, 0, n), vec(n, n, n))
	}
	return list
}
