package sight_test

import (
	"math"
	"math/rand/v2"
	"slices"
	"testing"

	"barcarole/api"
	"barcarole/sight"
)

// P9.1: the document's examples.
func TestExamples(t *testing.T) {
	b := []api.Body{example()}
	if i := first(t, vec(0, 0, 1), vec(10, 0, 1), b); i != 0 {
		t.Errorf("First through the body: %d", i)
	}
	if i := first(t, vec(0, 0, 3), vec(10, 0, 3), b); i != -1 {
		t.Errorf("First along the top: %d", i)
	}
	if i := first(t, vec(0, 0, 1), vec(4, 0, 1), b); i != -1 {
		t.Errorf("First to the body: %d", i)
	}
	v := view{vec(0, 0, 1), []api.Target{{At: vec(10, 0, 1), Weight: 1}}, b}
	if got := lines(t, v); !slices.Equal(got, []api.Line{blocked(0, 0, 1, 2)}) {
		t.Errorf("Lines through the body: %v", got)
	}
	v.targets = []api.Target{{At: vec(0, 5, 5), Weight: 3}, {At: vec(10, 0, 1), Weight: 1}}
	list := lines(t, v)
	if r := share(t, v.targets, list); !slices.Equal(list, []api.Line{free(0), blocked(1, 0, 1, 2)}) || r != (api.Rat{N: 3, D: 4}) {
		t.Errorf("Lines, Share: %v, %v", list, r)
	}
	// The first example of DOC.md.
	v = view{vec(0, 0, 0), []api.Target{{At: vec(100, 0, 0), Weight: 60}, {At: vec(100, 40, 0), Weight: 40}}, []api.Body{slab(50, 60)}}
	list = lines(t, v)
	if r := share(t, v.targets, list); !slices.Equal(list, []api.Line{blocked(0, 0, 4, 7), free(1)}) || r != (api.Rat{N: 2, D: 5}) {
		t.Errorf("Lines, Share: %v, %v", list, r)
	}
}

// checkWay finds whether a way past bodies, and the way back, have the first body that is wanted, and the line its At.
func checkWay(t *testing.T, from, to api.Vec, bodies []api.Body, want api.Line) {
	t.Helper()
	if i, back := first(t, from, to, bodies), first(t, to, from, bodies); i != want.Body || back != want.Body {
		t.Errorf("First from %v to %v: %d, back %d; want %d", from, to, i, back, want.Body)
	}
	v := view{from, at(to), bodies}
	if got := lines(t, v); !slices.Equal(got, []api.Line{want}) {
		t.Errorf("Lines from %v to %v: %v; want %v", from, to, got, want)
	}
	if !check(t, v, []api.Line{want}) {
		t.Errorf("Check from %v to %v: %v is not right", from, to, want)
	}
}

// P9.1, I1, I2: ways past a body that are not blocked: they touch a face, an edge or a corner alone, or lie in a face
// or along an edge, or begin or end on the border.
func TestFreeWays(t *testing.T) {
	b := []api.Body{example()}
	for _, way := range [][2]api.Vec{
		{vec(0, 0, 3), vec(10, 0, 3)}, {vec(5, -3, 3), vec(5, 3, 3)}, {vec(5, 0, 3), vec(6, 1, 3)}, {vec(5, -3, 0), vec(5, 3, 0)}, {vec(4, -1, 0), vec(6, 1, 0)},
		{vec(0, 1, 1), vec(10, 1, 1)}, {vec(4, -1, 1), vec(4, 1, 1)}, {vec(6, 0, -5), vec(6, 0, 5)}, {vec(4, -1, 0), vec(6, -1, 3)}, {vec(4, 0, 1), vec(4, 0, 2)},
		{vec(4, -1, 0), vec(4, -1, 3)}, {vec(0, 1, 3), vec(10, 1, 3)}, {vec(6, -5, 0), vec(6, 5, 0)}, {vec(6, 1, -9), vec(6, 1, 1)},
		{vec(2, 1, 1), vec(6, -3, 1)}, {vec(4, 3, 1), vec(8, -1, 2)}, {vec(2, 0, 1), vec(6, 0, 5)}, {vec(5, -3, 1), vec(5, 1, 5)}, {vec(5, 3, 1), vec(5, -1, 5)}, {vec(5, 0, 4), vec(7, 0, 2)}, {vec(5, 0, -1), vec(3, 0, 1)},
		{vec(3, 0, -1), vec(5, -2, 1)}, {vec(7, 0, 4), vec(5, 2, 2)}, {vec(4, -1, 0), vec(3, -2, -1)}, {vec(6, 1, 3), vec(7, 2, 4)},
		{vec(0, 0, 1), vec(4, 0, 1)}, {vec(6, 0, 1), vec(10, 0, 1)}, {vec(5, 0, 3), vec(5, 0, 9)}, {vec(5, 0, -3), vec(5, 0, 0)}, {vec(6, 1, 1), vec(10, 5, 1)}, {vec(5, 1, 1), vec(5, 2, 2)},
		{vec(7, 0, 1), vec(10, 0, 1)}, {vec(0, 0, 1), vec(3, 0, 1)}, {vec(0, 2, 1), vec(10, 2, 1)}, {vec(0, 0, 4), vec(10, 0, 4)}, {vec(0, 0, -1), vec(10, 0, -1)}, {vec(3, 0, -9), vec(3, 0, 9)}, {vec(2, 2, 1), vec(3, -5, 2)}, {vec(-most, -most, -most), vec(most, most, -most)},
	} {
		checkWay(t, way[0], way[1], b, free(0))
	}
}

// P9.1, I1, I2: ways through a body, also those that begin or end on its border or strictly inside.
func TestBlockedWays(t *testing.T) {
	b := []api.Body{example()}
	for _, c := range []struct {
		from, to api.Vec
		n, d     int
	}{
		{vec(0, 0, 1), vec(10, 0, 1), 1, 2}, {vec(0, 0, 2), vec(8, 0, 2), 2, 3}, {vec(5, 0, -3), vec(5, 0, 6), 1, 2}, {vec(5, -3, 1), vec(5, 2, 1), 3, 5}, {vec(2, -3, -3), vec(8, 3, 6), 1, 2}, {vec(2, 0, 1), vec(6, 0, 4), 3, 5}, {vec(3, 0, -1), vec(6, -2, 2), 2, 5},
		{vec(5, 0, 1), vec(10, 0, 1), 1, 6}, {vec(5, 0, 1), vec(5, 0, 6), 1, 3}, {vec(0, 0, 1), vec(5, 0, 1), 5, 6}, {vec(5, 9, 1), vec(5, 0, 1), 9, 10}, {vec(5, 0, 1), vec(5, 0, 2), 1, 2},
		{vec(4, 0, 1), vec(10, 0, 1), 1, 4}, {vec(4, 0, 1), vec(6, 0, 1), 1, 2}, {vec(4, 0, 1), vec(5, 1, 1), 1, 2}, {vec(4, 0, 1), vec(5, 0, 1), 1, 2}, {vec(5, 0, 1), vec(5, 0, 3), 1, 2}, {vec(4, -1, 0), vec(6, 1, 3), 1, 2}, {vec(4, -1, 0), vec(8, 3, 6), 1, 3}, {vec(8, 0, 1), vec(4, 0, 1), 2, 3},
	} {
		checkWay(t, c.from, c.to, b, blocked(0, 0, c.n, c.d))
	}
	thin := greatBodies()[2:]
	checkWay(t, vec(-2000, 2000, 0), vec(2000, -1999, 0), thin, blocked(0, 0, 15997999, 31988000))
	checkWay(t, vec(-2000, 1999, 0), vec(1999, -2000, 0), thin, blocked(0, 0, 7998000, 15994001))
	checkWay(t, vec(-1999, 2000, 0), vec(1998, -1999, 0), thin[1:], blocked(0, 0, 7988003, 15972011))
	checkWay(t, vec(-2000, 2000, 0), vec(2000, -2000, 0), thin[1:], free(0)) // through a corner
}

// P9.1, I2: mediants, many of which are not in lowest terms before they are reduced.
func TestMediants(t *testing.T) {
	for _, c := range []struct{ length, from, to, n, d int }{
		{10, 4, 6, 1, 2}, {40, 10, 20, 1, 3}, {9, 3, 6, 1, 2}, {12, 2, 6, 1, 4}, {9, 2, 4, 1, 3}, {7, 3, 5, 4, 7}, {10, 2, 5, 2, 7}, {12, 3, 8, 3, 7}, {7, -1, 1, 1, 8}, {7, 6, 9, 7, 8}, {6, -1, 9, 1, 2}, {15, 5, 9, 1, 2}, {15, 3, 10, 3, 8},
	} {
		checkWay(t, vec(0, 0, 0), vec(c.length, 0, 0), []api.Body{slab(c.from, c.to)}, blocked(0, 0, c.n, c.d))
	}
	lowered := 0
	for length := 1; length <= 30; length++ {
		for to := 1; to <= length; to++ {
			for from := range to {
				low, high := reduced(from, length), reduced(to, length)
				want := reduced(low.N+high.N, low.D+high.D)
				if want.D < low.D+high.D {
					lowered++
				}
				v := view{vec(0, 0, 0), at(vec(length, 0, 0)), []api.Body{slab(from, to)}}
				if got := lines(t, v); !slices.Equal(got, []api.Line{{Target: 0, Body: 0, At: want}}) {
					t.Errorf("from %d to %d of %d: %v; want %v", from, to, length, got, want)
				}
			}
		}
	}
	if lowered < 1000 {
		t.Errorf("only %d mediants were not in lowest terms", lowered)
	}
}

// P9.1, I1, I2: of several bodies that block, the first in the list counts, wherever it stands.
func TestSeveralBodies(t *testing.T) {
	near, middle, far, behind, beside := slab(1, 2), slab(4, 6), slab(8, 9), slab(11, 12), box(vec(4, 7, -5), vec(6, 9, 5))
	eye, target := vec(0, 0, 0), vec(10, 0, 0)
	for _, c := range []struct {
		bodies []api.Body
		want   api.Line
	}{
		{nil, free(0)}, {[]api.Body{behind, beside}, free(0)}, {[]api.Body{near}, blocked(0, 0, 2, 15)},
		{[]api.Body{far, near}, blocked(0, 0, 13, 15)}, {[]api.Body{beside, far, near, middle}, blocked(0, 1, 13, 15)}, {[]api.Body{behind, beside, middle, near, far}, blocked(0, 2, 1, 2)},
		{[]api.Body{near, far}, blocked(0, 0, 2, 15)}, {[]api.Body{beside, behind, beside, near, near}, blocked(0, 3, 2, 15)}, {[]api.Body{slab(0, 10), near}, blocked(0, 0, 1, 2)}, {[]api.Body{slab(10, 20), slab(-5, 0), far}, blocked(0, 2, 13, 15)},
	} {
		if i := first(t, eye, target, c.bodies); i != c.want.Body {
			t.Errorf("First past %v: %d", c.bodies, i)
		}
		if got := lines(t, view{eye, at(target), c.bodies}); !slices.Equal(got, []api.Line{c.want}) {
			t.Errorf("Lines past %v: %v; want %v", c.bodies, got, c.want)
		}
	}
}

// P9.1, I1: all ways between points around small bodies.
func TestFirstSmall(t *testing.T) {
	came := map[int]int{}
	points := grid(-1, 3)
	for _, bodies := range [][]api.Body{
		{box(vec(0, 0, 0), vec(2, 2, 2))},
		{body(0, 2, 0, 1, 1, 0, 2, 1, 1, 2), body(-1, 1, 0, 0, 2, 0, 0, 2), box(vec(1, 1, 1), vec(3, 3, 3))},
		{body(1, 3, 0, 0, 2, 1, 1, 1), box(vec(-1, -1, 0), vec(0, 3, 1)), body(-1, 3, 1, 0, 3, 0, 2, 1)},
	} {
		for _, eye := range points {
			for _, p := range points {
				if eye == p {
					continue
				}
				got, want := first(t, eye, p, bodies), lineOf(view{eye, at(p), bodies}, 0).Body
				came[want]++
				if got != want {
					t.Errorf("First from %v to %v past %v: %d; want %d", eye, p, bodies, got, want)
				}
			}
		}
	}
	if came[-1] < 5000 || came[0] < 5000 || came[1] < 1000 || came[2] < 500 {
		t.Errorf("answers: %v", came)
	}
}

// P9.1, I1, I2.
func TestLines(t *testing.T) {
	came, bodies := map[bool]int{}, map[int]bool{}
	for _, v := range views() {
		want := linesOf(v)
		if got := lines(t, v); !slices.Equal(got, want) {
			t.Errorf("Lines of %v: %v; want %v", v, got, want)
		}
		for i, l := range want {
			came[l.Body == -1]++
			bodies[l.Body] = true
			if got := first(t, v.eye, v.targets[i].At, v.bodies); got != l.Body {
				t.Errorf("First from %v to %v past %v: %d; want %d", v.eye, v.targets[i].At, v.bodies, got, l.Body)
			}
		}
	}
	if came[true] < 1000 || came[false] < 1000 || len(bodies) < 20 {
		t.Errorf("seen: %v; %d different bodies", came, len(bodies))
	}
}

// P9.1, I1 to I4: no bodies, as many as there may be, and one more; one target, as many as there may be, and one more.
func TestCounts(t *testing.T) {
	eye, p := vec(0, 0, 0), vec(10, 0, 0)
	for _, n := range []int{0, 1, 2, mostBodies - 1, mostBodies, mostBodies + 1, mostBodies + 2, 2 * mostBodies, 100000} {
		beside := slices.Repeat([]api.Body{box(vec(4, 7, -5), vec(6, 9, 5))}, n)
		last := append(slices.Clone(beside[:max(n-1, 0)]), slices.Repeat([]api.Body{slab(4, 6)}, min(n, 1))...)
		for _, c := range []struct {
			bodies []api.Body
			want   int
		}{{beside, -1}, {last, n - 1}, {slices.Repeat([]api.Body{slab(4, 6)}, n), min(n, 1) - 1}} {
			want, wrong := c.want, api.OK
			line := []api.Line{blocked(0, want, 1, 2)}
			if want == -1 {
				line = []api.Line{free(0)}
			}
			if n > mostBodies {
				want, wrong, line = 0, api.ErrLimit, nil
			}
			if i, e := sight.First(eye, p, c.bodies); i != want || e != wrong {
				t.Errorf("First past %d bodies: %d, %v; want %d, %v", n, i, e, want, wrong)
			}
			if list, e := sight.Lines(eye, at(p), c.bodies); !slices.Equal(list, line) || e != wrong {
				t.Errorf("Lines past %d bodies: %v, %v; want %v, %v", n, list, e, line, wrong)
			}
			if is, e := sight.Check(eye, at(p), c.bodies, line); is != (wrong == api.OK) || e != wrong {
				t.Errorf("Check past %d bodies: %v, %v; want %v", n, is, e, wrong)
			}
		}
	}
	for _, n := range []int{1, 2, mostTargets - 1, mostTargets, mostTargets + 1, mostTargets + 2, 2 * mostTargets, 100000} {
		var list []api.Line
		for i := range n {
			list = append(list, blocked(i, 0, 1, 2))
		}
		want, part, wrong := list, api.Rat{N: 0, D: 1}, api.OK
		if n > mostTargets {
			want, part, wrong = nil, api.Rat{}, api.ErrLimit
		}
		targets := slices.Repeat([]api.Target{{At: p, Weight: mostWeight}}, n)
		if got, e := sight.Lines(eye, targets, []api.Body{slab(4, 6)}); !slices.Equal(got, want) || e != wrong {
			t.Errorf("Lines of %d targets: %d lines, %v; want %v", n, len(got), e, wrong)
		}
		if is, e := sight.Check(eye, targets, []api.Body{slab(4, 6)}, list); is != (wrong == api.OK) || e != wrong {
			t.Errorf("Check of %d targets: %v, %v; want %v", n, is, e, wrong)
		}
		if r, e := sight.Share(targets, list); r != part || e != wrong {
			t.Errorf("Share of %d targets: %v, %v; want %v, %v", n, r, e, part, wrong)
		}
	}
}

// choice is what may be given for one of the arguments, with the error that it leads to.
type choice[T any] struct {
	given T
	e     api.Errno
}

// eyesToChoose are eyes for targets; the last ones are the points of some of them.
func eyesToChoose(targets []api.Target) []choice[api.Vec] {
	list := []choice[api.Vec]{{vec(0, 0, 1), api.OK}, {vec(5, 0, 1), api.OK}, {vec(0, most+1, 1), api.ErrArg}, {vec(math.MinInt, math.MaxInt, math.MinInt), api.ErrArg}}
	for i, target := range targets {
		if i == 0 || i == 1 || i == len(targets)-1 {
			list = append(list, choice[api.Vec]{target.At, api.ErrArg})
		}
	}
	return list
}

func targetsToChoose() []choice[[]api.Target] {
	right := at(vec(10, 0, 1), vec(10, 0, 4), vec(5, 5, 1), vec(10, 1, 2))
	list := []choice[[]api.Target]{
		{right, api.OK}, {right[:1], api.OK}, {slices.Repeat(right, 15), api.OK}, {slices.Repeat(right[:1], 2), api.OK}, {[]api.Target{{At: vec(most, -most, most), Weight: 1}, {At: vec(-most, most, -most), Weight: mostWeight}}, api.OK},
		{nil, api.ErrArg}, {[]api.Target{}, api.ErrArg}, {slices.Repeat(right, 16), api.ErrLimit}, {slices.Repeat(right[:1], 61), api.ErrLimit}, {make([]api.Target, 61), api.ErrLimit}, {make([]api.Target, 100000), api.ErrLimit},
	}
	change := func(i, n int, wrong api.Target) {
		targets := slices.Repeat(right, n)
		targets[i] = wrong
		list = append(list, choice[[]api.Target]{targets, api.ErrArg})
	}
	for _, weight := range []int{0, -1, 101, -100, math.MinInt, math.MaxInt, 1 << 32, 1<<32 + 1} {
		change(0, 1, api.Target{At: vec(10, 0, 1), Weight: weight})
		change(2, 1, api.Target{At: vec(10, 0, 1), Weight: weight})
		change(59, 15, api.Target{At: vec(10, 0, 1), Weight: weight})
	}
	for i, p := range []api.Vec{vec(most+1, 0, 1), vec(0, -most-1, 1), vec(0, 0, most+1), vec(math.MaxInt, math.MinInt, 0)} {
		change(i, 1, api.Target{At: p, Weight: 1})
		change(59-i, 15, api.Target{At: p, Weight: mostWeight})
	}
	return list
}

func bodiesToChoose() []choice[[]api.Body] {
	list := []choice[[]api.Body]{
		{nil, api.OK}, {[]api.Body{}, api.OK}, {[]api.Body{example()}, api.OK}, {slices.Repeat([]api.Body{example()}, 60), api.OK},
		{slices.Repeat([]api.Body{example()}, 61), api.ErrLimit}, {make([]api.Body, 61), api.ErrLimit}, {slices.Repeat([]api.Body{{}, example()}, 31), api.ErrLimit}, {make([]api.Body, 100000), api.ErrLimit},
		{make([]api.Body, 60), api.ErrArg}, {slices.Concat(slices.Repeat([]api.Body{example()}, 59), make([]api.Body, 1)), api.ErrArg}, {slices.Concat(make([]api.Body, 1), slices.Repeat([]api.Body{example()}, 59)), api.ErrArg},
	}
	for _, wrong := range []api.Body{{}, body(3, 3, 4, -1, 6, -1, 6, 1, 4, 1), body(0, 3, 6, -1, 6, 1, 4, 1, 4, -1)} {
		for _, bodies := range [][]api.Body{{wrong}, {wrong, example()}, {example(), wrong}, {slab(1, 2), example(), wrong}, {slab(1, 2), wrong, example()}} {
			list = append(list, choice[[]api.Body]{bodies, api.ErrArg})
		}
	}
	return list
}

// firstError is the one that counts: ErrLimit comes before ErrArg, and is the greater one of them.
func firstError(errors ...api.Errno) api.Errno { return slices.Max(errors) }

// P9.1, I1 to I3: everything that can be wrong, alone and together with the rest.
func TestErrors(t *testing.T) {
	came := map[api.Errno]int{}
	for _, targets := range targetsToChoose() {
		for _, eye := range eyesToChoose(targets.given) {
			for _, bodies := range bodiesToChoose() {
				want := firstError(eye.e, targets.e, bodies.e)
				came[want]++
				v := view{eye.given, targets.given, bodies.given}
				var right []api.Line
				if want == api.OK {
					right = linesOf(v)
				}
				if list, e := sight.Lines(v.eye, v.targets, v.bodies); !slices.Equal(list, right) || e != want {
					t.Errorf("Lines from %v, %d targets, %d bodies: %v, %v; want %v", v.eye, len(v.targets), len(v.bodies), list, e, want)
				}
				if is, e := sight.Check(v.eye, v.targets, v.bodies, right); is != (want == api.OK) || e != want {
					t.Errorf("Check from %v, %d targets, %d bodies: %v, %v; want %v", v.eye, len(v.targets), len(v.bodies), is, e, want)
				}
				for i, target := range v.targets[:min(len(v.targets), 3)] {
					wrong, index := bodies.e, 0
					if !isVector(v.eye) || !isVector(target.At) || target.At == v.eye {
						wrong = firstError(wrong, api.ErrArg)
					}
					if wrong == api.OK {
						index = lineOf(v, i).Body
					}
					if got, e := sight.First(v.eye, target.At, v.bodies); got != index || e != wrong {
						t.Errorf("First from %v to %v, %d bodies: %d, %v; want %d, %v", v.eye, target.At, len(v.bodies), got, e, index, wrong)
					}
				}
			}
		}
	}
	if came[api.OK] < 30 || came[api.ErrArg] < 1000 || came[api.ErrLimit] < 500 {
		t.Errorf("answers: %v", came)
	}
}

// P9.1, I1 to I3: all kinds of points and bodies that are not valid.
func TestNotValid(t *testing.T) {
	eye, p := vec(0, 0, 1), vec(10, 0, 1)
	refused := func(eye, p api.Vec, bodies []api.Body) {
		t.Helper()
		if i, e := sight.First(eye, p, bodies); i != 0 || e != api.ErrArg {
			t.Errorf("First from %v to %v: %d, %v", eye, p, i, e)
		}
		for _, targets := range [][]api.Target{{{At: p, Weight: 1}}, {{At: vec(1, 1, 7), Weight: 100}, {At: p, Weight: 1}}} {
			if list, e := sight.Lines(eye, targets, bodies); list != nil || e != api.ErrArg {
				t.Errorf("Lines from %v to %v: %v, %v", eye, p, list, e)
			}
			for _, list := range [][]api.Line{nil, {free(0)}, {blocked(0, 0, 1, 2)}, {free(0), free(1)}} {
				if is, e := sight.Check(eye, targets, bodies, list); is || e != api.ErrArg {
					t.Errorf("Check from %v to %v: %v, %v", eye, p, is, e)
				}
			}
		}
	}
	for _, wrong := range notPoints() {
		refused(wrong, p, nil)
		refused(eye, wrong, nil)
		refused(wrong, p, []api.Body{example()})
		refused(eye, wrong, []api.Body{example()})
		refused(wrong, wrong, nil)
	}
	for _, same := range []api.Vec{{}, eye, vec(5, 0, 1), vec(most, -most, most)} {
		refused(same, same, nil)
		refused(same, same, []api.Body{example()})
	}
	for _, wrong := range notBodies() {
		refused(eye, p, []api.Body{wrong})
		refused(eye, p, []api.Body{example(), wrong})
		refused(eye, p, []api.Body{wrong, example()})
		refused(eye, vec(0, 0, 9), []api.Body{example(), wrong})
	}
}

// partsFor are parts strictly between two numbers, and others, some of which are no numbers.
func partsFor(low, high api.Rat) []api.Rat {
	var list []api.Rat
	for _, k := range []int{1, 2, 3, 10, 10000} {
		for _, by := range [][2]int{{1, k}, {k, 1}} {
			n, d := by[0]*low.N+by[1]*high.N, by[0]*low.D+by[1]*high.D
			list = append(list, reduced(n, d))
			if common(n, d) > 1 {
				list = append(list, api.Rat{N: n, D: d})
			}
		}
	}
	half := list[0]
	list = append(list, low, high, api.Rat{}, api.Rat{N: 0, D: 1}, api.Rat{N: 1, D: 1}, api.Rat{N: 1, D: 2}, api.Rat{N: -1, D: 2}, api.Rat{N: 3, D: 2}, api.Rat{N: 1, D: mostRat}, api.Rat{N: mostRat - 1, D: mostRat})
	list = append(list, reduced(low.N, low.D+1), reduced(high.N+1, high.D+1), reduced(1000*low.N+high.N, 1000*low.D+high.D), reduced(max(2*low.N-1, 0), 2*low.D), reduced(2*high.N+1, 2*high.D))
	for _, k := range []int{2, 3, -1, -2, 0, 1 << 32} {
		list = append(list, api.Rat{N: half.N * k, D: half.D * k}, api.Rat{N: half.N * k, D: half.D}, api.Rat{N: half.N, D: half.D * k}, api.Rat{N: low.N * k, D: low.D * k})
	}
	return append(list, api.Rat{N: math.MaxInt, D: math.MaxInt}, api.Rat{N: math.MinInt, D: math.MinInt}, api.Rat{N: half.N, D: math.MinInt}, api.Rat{N: mostRat / 2, D: mostRat + 1}, api.Rat{N: 500000003, D: 1000000007}, api.Rat{N: half.N, D: 1<<32 + half.D})
}

// changedLines are lines of a target with other bodies, and some that are none, and other At.
func changedLines(v view, target int, random *rand.Rand) []api.Line {
	var list []api.Line
	add := func(body int, parts []api.Rat) {
		for _, part := range parts {
			list = append(list, api.Line{Target: target, Body: body, At: part})
		}
	}
	some := partsFor(api.Rat{N: 0, D: 1}, api.Rat{N: 1, D: 1})
	blockers := 0
	for _, i := range random.Perm(len(v.bodies)) {
		low, high, is := clipOf(v.bodies[i], v.eye, v.targets[target].At)
		if is && blockers < 3 {
			blockers++
			add(i, partsFor(low, high))
		} else {
			add(i, some[random.IntN(len(some)):][:1])
		}
	}
	add(-1, some)
	for _, i := range []int{-2, -3, -1 - len(v.bodies), len(v.bodies), len(v.bodies) + 1, math.MinInt, math.MaxInt, 1 << 32, 1<<32 - 1, -1 << 32, 1 << 16, 255, 65535} {
		add(i, some[:4])
	}
	for _, other := range []int{target - 1, target + 1, -1, math.MinInt, target + 1<<32} {
		l := lineOf(v, target)
		l.Target = other
		list = append(list, l, free(other))
	}
	return list
}

// P9.1, I3: lines with one of them changed.
func TestCheckChanged(t *testing.T) {
	came := map[bool]int{}
	random := rand.New(rand.NewPCG(9, 2))
	for _, v := range views() {
		if right := linesOf(v); !check(t, v, right) {
			t.Errorf("Check of %v: %v is not right", v, right)
		}
		v.targets = v.targets[:min(len(v.targets), 5)]
		for i := range v.targets {
			list := linesOf(v)
			for _, l := range changedLines(v, i, random) {
				list[i] = l
				want := isTrue(v, i, l)
				came[want]++
				if check(t, v, list) != want {
					t.Errorf("Check of %v: %v as line %d: %v", v, l, i, !want)
				}
			}
		}
	}
	if came[true] < 2000 || came[false] < 10000 {
		t.Errorf("answers: %v", came)
	}
}

// checkedView has a target that two bodies block, one that is seen, one that the last body blocks alone, and another
// one that is seen.
func checkedView() (view, []api.Line) {
	v := view{vec(0, 0, 1), at(vec(10, 0, 1), vec(10, 9, 1), vec(0, -10, 1), vec(0, 0, 9)), []api.Body{slab(7, 8), example(), box(vec(-1, -5, 0), vec(1, -4, 2))}}
	return v, []api.Line{blocked(0, 0, 11, 15), free(1), blocked(2, 2, 3, 7), free(3)}
}

// P9.1, I3: the examples of lines that are right.
func TestCheckRight(t *testing.T) {
	v, right := checkedView()
	if got := lines(t, v); !slices.Equal(got, right) {
		t.Errorf("Lines: %v; want %v", got, right)
	}
	for _, l := range []api.Line{
		right[0], blocked(0, 0, 71, 100), blocked(0, 0, 700000001, 1000000000), blocked(0, 0, 799999999, 1000000000), blocked(0, 0, 3, 4),
		blocked(0, 1, 1, 2), blocked(0, 1, 401, 1000), blocked(0, 1, 3, 7), blocked(0, 1, 5, 9), blocked(0, 1, 599999999, 1000000000), // not the first body
		blocked(2, 2, 3, 7), blocked(2, 2, 4, 9), blocked(2, 2, 41, 100), blocked(2, 2, 49, 100),
	} {
		list := slices.Clone(right)
		list[l.Target] = l
		if !check(t, v, list) {
			t.Errorf("Check: %v is not right", list)
		}
	}
}

// P9.1, I3: the examples of lines that are not right.
func TestCheckWrong(t *testing.T) {
	v, right := checkedView()
	for _, l := range []api.Line{
		blocked(0, 0, 7, 10), blocked(0, 0, 4, 5), blocked(0, 1, 2, 5), blocked(0, 1, 3, 5), blocked(2, 2, 2, 5), blocked(2, 2, 1, 2), // an end
		blocked(0, 0, 1, 2), blocked(0, 0, 9, 10), blocked(0, 1, 3, 4), blocked(0, 1, 1, 5), blocked(0, 0, 0, 1), blocked(0, 0, 1, 1), blocked(0, 0, -3, 4), blocked(0, 0, 7, 4), // outside
		blocked(0, 0, 6, 8), blocked(0, 0, -3, -4), blocked(0, 1, 2, 4), blocked(0, 0, 3, 0), blocked(0, 0, 0, 0), blocked(0, 0, 750000001, 1000000001), blocked(0, 0, 3<<40, 4<<40), // no number
		free(0), blocked(0, -1, 3, 4), free(2), blocked(2, -1, 3, 7), // not seen
		blocked(1, -1, 1, 2), blocked(1, -1, 1, 1), blocked(1, -1, 0, 0), blocked(1, -1, 0, 2), blocked(1, -1, 0, -1), blocked(3, -1, -1, 1), // seen, with another At
		blocked(1, 0, 3, 4), blocked(1, 0, 1, 2), blocked(1, 1, 1, 2), blocked(1, 2, 3, 7), blocked(1, 0, 0, 1), blocked(3, 1, 1, 2), blocked(2, 0, 3, 4), blocked(2, 1, 1, 2), blocked(0, 2, 3, 7), // a body that does not block
		blocked(0, 3, 1, 2), blocked(0, 4, 3, 4), blocked(2, 3, 3, 7), blocked(1, 3, 0, 1), blocked(0, math.MaxInt, 3, 4), blocked(0, 1<<32, 3, 4), // no body
		blocked(0, -2, 3, 4), blocked(1, -2, 0, 1), blocked(1, -3, 0, 1), blocked(0, math.MinInt, 3, 4), blocked(1, math.MinInt, 0, 1), blocked(1, 1<<32-1, 0, 1),
	} {
		list := slices.Clone(right)
		list[l.Target] = l
		if check(t, v, list) {
			t.Errorf("Check: %v is right", list)
		}
	}
	for _, list := range [][]api.Line{
		nil, {}, right[:1], right[:3], right[1:], append(slices.Clone(right), free(4)), append(slices.Clone(right), free(3)), slices.Concat(right, right), slices.Repeat(right, 25000), // too few, too many
		{right[2], right[1], right[0], right[3]}, {right[0], right[3], right[2], right[1]}, {right[1], right[0], right[2], right[3]}, {right[0], right[1], right[3], right[2]}, // another order
		{blocked(1, 0, 3, 4), free(1), right[2], right[3]}, {right[0], free(0), right[2], right[3]}, {right[0], free(3), right[2], right[3]}, {right[0], free(2), right[2], right[3]}, {right[0], free(-1), right[2], right[3]}, {right[0], free(4), right[2], right[3]}, {right[0], free(math.MaxInt), right[2], right[3]}, {right[0], free(math.MinInt), right[2], right[3]}, {right[0], right[1], right[2], free(4)}, {right[0], right[1], right[2], free(0)},
		{blocked(1, 0, 3, 4), free(2), blocked(3, 2, 3, 7), free(4)}, {blocked(0, 0, 3, 4), free(0), blocked(0, 2, 3, 7), free(0)},
		make([]api.Line, 4), make([]api.Line, 100000),
	} {
		if check(t, v, list) {
			t.Errorf("Check: %v is right", list[:min(len(list), 5)])
		}
	}
}

// P9.1, I4.
func TestShare(t *testing.T) {
	weigh := func(weights ...int) []api.Target {
		var list []api.Target
		for _, w := range weights {
			list = append(list, api.Target{At: vec(w, 0, 0), Weight: w})
		}
		return list
	}
	number := func(bodies ...int) []api.Line {
		var list []api.Line
		for i, b := range bodies {
			list = append(list, blocked(i, b, 1, 2))
		}
		return list
	}
	for _, c := range []struct {
		targets []api.Target
		lines   []api.Line
		n, d    int
	}{
		{weigh(3, 1), number(-1, 0), 3, 4}, {weigh(60, 40), number(0, -1), 2, 5}, {weigh(7), number(-1), 1, 1}, {weigh(7), number(0), 0, 1}, {weigh(1), number(-1), 1, 1}, {weigh(100), number(59), 0, 1},
		{weigh(1, 100), number(-1, 3), 1, 101}, {weigh(1, 100), number(3, -1), 100, 101}, {weigh(1, 1, 1), number(-1, 5, -1), 2, 3}, {weigh(2, 4, 6), number(-1, -1, 0), 1, 2}, {weigh(5, 5, 5, 5), number(0, 0, -1, 0), 1, 4}, {weigh(99, 100), number(0, -1), 100, 199},
		{weigh(slices.Repeat([]int{100}, 60)...), number(slices.Repeat([]int{-1}, 60)...), 1, 1}, {weigh(slices.Repeat([]int{100}, 60)...), number(slices.Repeat([]int{0}, 60)...), 0, 1}, {weigh(slices.Repeat([]int{100}, 60)...), number(append(slices.Repeat([]int{0}, 59), -1)...), 1, 60}, {weigh(append(slices.Repeat([]int{100}, 59), 1)...), number(append(slices.Repeat([]int{-1}, 59), 0)...), 5900, 5901},
		{weigh(3, 1), number(-1, -2), 3, 4}, {weigh(3, 1), number(-1, 60), 3, 4}, {weigh(3, 1), number(math.MinInt, -1), 1, 4}, {weigh(3, 1), number(math.MaxInt, -1), 1, 4}, {weigh(3, 1), number(1<<32-1, -1), 1, 4}, // Body -1 alone counts, whatever else a line says
	} {
		if r := share(t, c.targets, c.lines); r != (api.Rat{N: c.n, D: c.d}) {
			t.Errorf("Share(%v, %v): %v", c.targets, c.lines, r)
		}
	}
	came := map[api.Rat]int{}
	for _, v := range views() {
		list := lines(t, v)
		want := shareOf(v.targets, list)
		came[want]++
		if r := share(t, v.targets, list); r != want {
			t.Errorf("Share(%v, %v): %v; want %v", v.targets, list, r, want)
		}
	}
	if len(came) < 50 || came[api.Rat{N: 0, D: 1}] < 5 || came[api.Rat{N: 1, D: 1}] < 5 {
		t.Errorf("only %d different shares", len(came))
	}
}

// P9.1, I4.
func TestShareErrors(t *testing.T) {
	numbered := func(n int) []api.Line {
		var list []api.Line
		for i := range n {
			list = append(list, free(i))
		}
		return list
	}
	for _, c := range targetsToChoose() {
		n := len(c.given)
		wrong := numbered(n)
		for _, list := range [][]api.Line{wrong, wrong[:max(n-1, 0)], numbered(n + 1), nil, slices.Repeat([]api.Line{free(0)}, n+2)} {
			want := c.e
			if len(list) != n {
				want = firstError(want, api.ErrArg)
			}
			r, e := sight.Share(c.given, list)
			if e != want || (e != api.OK && r != api.Rat{}) || (e == api.OK && r != api.Rat{N: 1, D: 1}) {
				t.Errorf("Share of %d targets, %d lines: %v, %v; want %v", n, len(list), r, e, want)
			}
		}
	}
	targets := at(vec(10, 0, 1), vec(10, 9, 1), vec(0, -10, 1))
	for _, list := range [][]api.Line{
		nil, {free(0)}, {free(0), free(1)}, {free(0), free(1), free(2), free(3)}, {free(1), free(2), free(3)}, {free(0), free(2), free(1)}, {free(1), free(0), free(2)}, {free(0), free(0), free(0)}, {free(0), free(1), free(1)}, {free(2), free(1), free(0)}, {free(0), free(1), free(3)}, {free(0), free(-1), free(2)}, {free(-1), free(0), free(1)}, {free(0), free(1), free(2 + 1<<32)}, {free(math.MinInt), free(1), free(2)}, {free(0), free(1), free(math.MaxInt)}, make([]api.Line, 3), make([]api.Line, 100000),
	} {
		if r, e := sight.Share(targets, list); r != (api.Rat{}) || e != api.ErrArg {
			t.Errorf("Share with %v: %v, %v", list[:min(len(list), 5)], r, e)
		}
	}
}

// DOC.md, Rules: functions do not modify their arguments, and results share no memory.
func TestArgumentsStay(t *testing.T) {
	v, right := checkedView()
	same := view{v.eye, slices.Clone(v.targets), cloneBodies(v.bodies)}
	given := slices.Clone(right)
	before := lines(t, v)
	for i := range before {
		before[i] = blocked(7, 7, 7, 7)
	}
	if !check(t, v, given) || !slices.Equal(lines(t, v), right) || share(t, v.targets, given) != shareOf(v.targets, right) || first(t, v.eye, v.targets[0].At, v.bodies) != 0 {
		t.Error("another result than before")
	}
	if !slices.Equal(v.targets, same.targets) || !slices.EqualFunc(v.bodies, same.bodies, equalBodies) || !slices.Equal(given, right) {
		t.Errorf("changed: %v, %v", v, given)
	}
}
