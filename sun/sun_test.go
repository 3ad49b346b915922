package sun_test

import (
	"math"
	"math/rand/v2"
	"slices"
	"testing"

	"barcarole/api"
	"barcarole/sun"
)

// P10.1: the document's examples.
func TestExamples(t *testing.T) {
	for _, c := range []struct {
		minute int
		want   api.Vec
		up     bool
	}{
		{720, vec(0, -100, 50), true}, {1500, vec(0, 100, -20), false}, {1200, vec(0, 100, -20), false}, {1740, vec(0, -100, 50), true},
	} {
		if dir, up := direction(t, example(), c.minute); dir != c.want || up != c.up {
			t.Errorf("At %d: %v, %v", c.minute, dir, up)
		}
	}
	v := look{table: example(), minute: 720, eye: vec(0, 0, 0)}
	if shaded(t, v) {
		t.Error("Shaded without bodies: true")
	}
	v.bodies = []api.Body{shade()}
	if !shaded(t, v) {
		t.Error("Shaded with a body: false")
	}
	for _, c := range []struct {
		target api.Vec
		share  api.Rat
		want   bool
	}{{vec(0, -10, 5), rat(1, 1), true}, {vec(0, -10, 0), rat(4, 5), true}, {vec(0, -10, 0), rat(9, 10), false}} {
		v := look{table: example(), minute: 720, target: c.target, share: c.share}
		if is := glare(t, v); is != c.want {
			t.Errorf("Glare of %s: %v", v.text(), is)
		}
	}
}

// rising is a table with elements from one minute on, a number of minutes apart.
func rising(n, from, apart int) []api.Sun {
	var list []api.Sun
	for i := range n {
		list = append(list, api.Sun{From: from + i*apart, Dir: vec(i-3, 3-i, 1+i%7-3)})
	}
	return list
}

func tables() [][]api.Sun {
	list := [][]api.Sun{
		example(), always(vec(0, 0, 1)), {{From: 1439, Dir: vec(0, 0, -1)}}, {{From: 700, Dir: vec(1, 2, 0)}}, {{From: 0, Dir: vec(1, 0, 0)}, {From: 1, Dir: vec(1, 0, 0)}}, {{From: 0, Dir: vec(0, 1, 0)}, {From: 1439, Dir: vec(0, 0, 1)}}, {{From: 1438, Dir: vec(0, -1, 0)}, {From: 1439, Dir: vec(0, 0, 1)}}, {{From: 1, Dir: vec(0, -1, 1)}, {From: 2, Dir: vec(0, -1, 2)}, {From: 3, Dir: vec(0, -1, 0)}},
		{{From: 0, Dir: vec(most, most, most)}, {From: 10, Dir: vec(-most, -most, -most)}, {From: 20, Dir: vec(most, 0, 0)}, {From: 30, Dir: vec(0, -most, 0)}, {From: 40, Dir: vec(0, 0, -most)}},
		rising(2, 0, 1439), rising(3, 0, 719), rising(99, 0, 1), rising(mostSuns, 0, 1), rising(mostSuns, 1340, 1), rising(mostSuns, 0, 14), rising(mostSuns, 53, 14),
	}
	random := rand.New(rand.NewPCG(10, 2))
	for _, n := range []int{1, 2, 3, 4, 7, 8, 50, 99, mostSuns} {
		list = append(list, randomTable(random, n, 9), randomTable(random, n, most))
	}
	return list
}

// notTables are not valid, each by one element or by the number of them.
func notTables() [][]api.Sun {
	list := [][]api.Sun{nil, {}, rising(mostSuns+1, 0, 1), rising(mostSuns+1, 0, 14), rising(mostSuns+1, 1339, 1), rising(2*mostSuns, 0, 1), rising(1440, 0, 1), make([]api.Sun, 1), make([]api.Sun, mostSuns), make([]api.Sun, 100000), slices.Repeat(example(), 50), slices.Repeat(always(vec(0, 0, 1)), 2)}
	change := func(n, i int, wrong api.Sun) {
		table := rising(n, 100, 10)
		table[i] = wrong
		list = append(list, table)
	}
	for _, place := range [][2]int{{1, 0}, {3, 0}, {3, 1}, {3, 2}, {mostSuns, 0}, {mostSuns, 1}, {mostSuns, 50}, {mostSuns, mostSuns - 1}} {
		n, i := place[0], place[1]
		from := 100 + 10*i
		for _, wrong := range []int{-1, -2, -day, 1440, 1441, 1440 + from, 1 << 32, 1<<32 + from, from - 1<<32, math.MaxInt, math.MaxInt - 1, math.MinInt, math.MinInt + from} {
			change(n, i, api.Sun{From: wrong, Dir: vec(0, 0, 1)})
		}
		change(n, i, api.Sun{From: from, Dir: vec(0, 0, 0)})
		for _, wrong := range beyond {
			change(n, i, api.Sun{From: from, Dir: vec(wrong, 0, 1)})
			change(n, i, api.Sun{From: from, Dir: vec(0, wrong, 1)})
			change(n, i, api.Sun{From: from, Dir: vec(1, 0, wrong)})
		}
		if i > 0 {
			for _, wrong := range []int{from - 10, from - 11, from - 20, 0, 99} {
				change(n, i, api.Sun{From: wrong, Dir: vec(0, 0, 1)})
			}
		}
		if i < n-1 {
			for _, wrong := range []int{from + 10, from + 11, from + 20, 1439} {
				change(n, i, api.Sun{From: wrong, Dir: vec(0, 0, 1)})
			}
		}
	}
	return list
}

// P10.1, J1.
func TestValid(t *testing.T) {
	for _, table := range tables() {
		if !isTable(table) || !sun.Valid(table) {
			t.Errorf("Valid of %d suns %v: false", len(table), table)
		}
	}
	for _, table := range notTables() {
		if isTable(table) || sun.Valid(table) {
			t.Errorf("Valid of %d suns %v: true", len(table), table[:min(len(table), 5)])
		}
	}
}

// P10.1, J1: all pairs of minutes around the limits.
func TestValidPairs(t *testing.T) {
	minutes := []int{-2, -1, 0, 1, 2, 3, 719, 720, 721, 1437, 1438, 1439, 1440, 1441, 2879, 2880}
	for _, a := range minutes {
		for _, b := range minutes {
			table := []api.Sun{{From: a, Dir: vec(0, 0, 1)}, {From: b, Dir: vec(0, 1, 0)}}
			want := 0 <= a && a < b && b <= 1439
			if sun.Valid(table) != want {
				t.Errorf("Valid of %v: %v", table, !want)
			}
		}
	}
}

// P10.1, J2: at an element, ahead of it and behind it, on several days.
func TestAt(t *testing.T) {
	a, b, c := vec(3, 4, 5), vec(-7, 2, 0), vec(1, -1, -1)
	morning := []api.Sun{{From: 0, Dir: a}, {From: 600, Dir: b}, {From: 1439, Dir: c}}
	later := []api.Sun{{From: 360, Dir: b}, {From: 361, Dir: c}, {From: 1080, Dir: a}}
	for _, x := range []struct {
		table  []api.Sun
		minute int
		want   api.Vec
		up     bool
	}{
		{morning, 0, a, true}, {morning, 1, a, true}, {morning, 599, a, true}, {morning, 600, b, false}, {morning, 601, b, false}, {morning, 1438, b, false}, {morning, 1439, c, false}, {morning, 1440, a, true}, {morning, 1441, a, true},
		{morning, 2039, a, true}, {morning, 2040, b, false}, {morning, 2879, c, false}, {morning, 2880, a, true}, {morning, mostMinute, b, false}, {morning, 599039, c, false}, {morning, 599040, a, true}, {morning, 599639, a, true}, {morning, 599640, b, false},
		{later, 0, a, true}, {later, 359, a, true}, {later, 360, b, false}, {later, 361, c, false}, {later, 362, c, false}, {later, 1079, c, false}, {later, 1080, a, true}, {later, 1439, a, true}, {later, 1440, a, true}, {later, 1799, a, true}, {later, 1800, b, false}, {later, 1801, c, false}, {later, mostMinute, c, false}, {later, 599399, a, true}, {later, 599400, b, false}, {later, 599401, c, false},
		{always(a), 0, a, true}, {always(a), mostMinute, a, true}, {always(b), 1439, b, false}, {always(c), 1440, c, false}, {[]api.Sun{{From: 1439, Dir: a}}, 0, a, true}, {[]api.Sun{{From: 1439, Dir: a}}, 1438, a, true}, {[]api.Sun{{From: 1439, Dir: a}}, 1439, a, true}, {[]api.Sun{{From: 1439, Dir: b}}, mostMinute, b, false},
	} {
		if dir, up := direction(t, x.table, x.minute); dir != x.want || up != x.up {
			t.Errorf("At(%v, %d): %v, %v; want %v, %v", x.table, x.minute, dir, up, x.want, x.up)
		}
	}
}

// P10.1, J2: all minutes of the first three days, and of the last one.
func TestAtAllMinutes(t *testing.T) {
	for _, table := range tables() {
		for minute := range 4 * day {
			if minute >= 3*day {
				minute = mostMinute - minute + 3*day
			}
			want := directionOf(table, minute)
			if dir, up := direction(t, table, minute); dir != want || up != (want.Z > 0) {
				t.Errorf("At(%v, %d): %v, %v; want %v", table, minute, dir, up, want)
			}
		}
	}
}

// P10.1, J2: the sun is up with a Z above 0 alone.
func TestUp(t *testing.T) {
	for _, z := range []int{1, 2, 50, most, 0, -1, -2, -50, -most} {
		for _, dir := range []api.Vec{vec(1, 0, z), vec(-3, 40, z), vec(0, -most, z), vec(most, most, z)} {
			v := look{table: always(dir), minute: 77, target: vec(0, 0, 1), share: rat(1, 1)}
			if got, up := direction(t, v.table, 77); got != dir || up != (z > 0) {
				t.Errorf("At with %v: %v, %v", dir, got, up)
			}
			if is := shaded(t, v); is != (z <= 0) {
				t.Errorf("Shaded with %v: %v", dir, is)
			}
			v.target = step(dir)
			if is := glare(t, v); is != (z > 0) {
				t.Errorf("Glare with %v: %v", dir, is)
			}
		}
	}
}

// P10.1, J2.
func TestAtErrors(t *testing.T) {
	expectNone := func(table []api.Sun, minute int) {
		t.Helper()
		if dir, up, e := sun.At(table, minute); dir != vec(0, 0, 0) || up || e != api.ErrArg {
			t.Errorf("At with %d suns at %d: %v, %v, %v", len(table), minute, dir, up, e)
		}
	}
	for _, table := range notTables() {
		for _, minute := range []int{0, 100, 1439, mostMinute, -1, mostMinute + 1} {
			expectNone(table, minute)
		}
	}
	for _, table := range tables() {
		for _, minute := range notMinutes {
			expectNone(table, minute)
		}
	}
}

// checkWay finds whether an eye is in the shade, and whether it is dazzled if it looks along the way to the sun.
func checkWay(t *testing.T, eye, dir api.Vec, bodies []api.Body, want bool) {
	t.Helper()
	v := look{always(dir), 600, eye, plus(eye, step(dir)), rat(1, 1), bodies}
	if is, dazzled := shaded(t, v), glare(t, v); is != want || dazzled == want {
		t.Errorf("from %v along %v past %v: shaded %v, glare %v", eye, dir, bodies, is, dazzled)
	}
}

// P10.1, J3, J4: ways to the sun that a body does not block: they touch a face, an edge or a corner alone, or begin or
// end on the border, or end ahead of the body, or lead past it.
func TestFreeWays(t *testing.T) {
	b := []api.Body{box(vec(4, -1, 0), vec(6, 1, 3))}
	for _, way := range [][2]api.Vec{
		{vec(0, 1, 0), vec(10, 0, 3)}, {vec(5, -1, -5), vec(0, 0, 10)}, {vec(4, -1, -5), vec(0, 0, 10)}, {vec(6, 0, -5), vec(0, 0, 10)}, {vec(4, -5, 0), vec(0, 10, 3)}, // in a face or an edge
		{vec(2, 0, 1), vec(4, 0, 4)}, {vec(4, 0, -2), vec(4, 0, 4)}, {vec(5, 3, 1), vec(0, -4, 4)}, {vec(2, 1, 0), vec(4, -4, 3)}, {vec(4, 3, 1), vec(4, -4, 1)}, // an edge
		{vec(4, 3, -2), vec(4, -4, 4)}, {vec(2, 1, 1), vec(4, -4, 4)}, {vec(3, 0, 2), vec(2, 2, 2)}, // a corner
		{vec(0, 0, 0), vec(4, 0, 1)}, {vec(5, 0, -3), vec(0, 0, 3)}, {vec(0, -5, -3), vec(4, 4, 3)}, {vec(9, 0, 0), vec(-3, 0, 1)}, {vec(5, 3, 1), vec(0, -2, 1)}, {vec(5, 0, -9), vec(1, 1, 9)}, // it ends on the border
		{vec(5, 0, 3), vec(0, 0, 9)}, {vec(6, 0, 1), vec(5, 0, 5)}, {vec(4, 0, 0), vec(-1, 0, 1)}, {vec(6, 1, 3), vec(1, 1, 1)}, {vec(5, 1, 1), vec(0, 1, 1)}, {vec(4, 0, 1), vec(0, 0, 1)}, {vec(5, 0, 3), vec(7, 1, 1)}, // it begins there
		{vec(0, 0, 0), vec(3, 0, 1)}, {vec(5, 0, -3), vec(0, 0, 2)}, {vec(5, 0, 4), vec(0, 0, 9)}, {vec(7, 0, 1), vec(3, 0, 1)}, {vec(0, 2, 0), vec(10, 0, 3)}, {vec(0, 0, 4), vec(10, 0, 1)}, {vec(0, 0, -9), vec(10, 0, 1)}, {vec(3, 0, -9), vec(0, 0, 99)}, {vec(10, 0, 1), vec(10, 0, 1)},
		{vec(-1995, 0, -2000), vec(2000, 0, 2000)}, {vec(2000, 2, 0), vec(-2000, 0, 1)},
	} {
		checkWay(t, way[0], way[1], b, false)
	}
	wedge := []api.Body{body(0, 4, 0, 0, 4, 0, 0, 4)}
	checkWay(t, vec(1, 3, 0), vec(2, -2, 2), wedge, false)
	checkWay(t, vec(3, 3, 1), vec(-1, -1, 1), wedge, false)
	checkWay(t, vec(0, 5, 1), vec(5, -5, 1), wedge, false)
}

// P10.1, J3, J4: ways that a body blocks, also from or to a point on its border or inside it.
func TestBlockedWays(t *testing.T) {
	b := []api.Body{box(vec(4, -1, 0), vec(6, 1, 3))}
	for _, way := range [][2]api.Vec{
		{vec(0, 0, 0), vec(10, 0, 3)}, {vec(10, 0, 0), vec(-10, 0, 3)}, {vec(5, 0, -3), vec(0, 0, 9)}, {vec(5, -9, 1), vec(0, 18, 1)}, {vec(2, -3, -3), vec(6, 6, 9)}, {vec(3, 0, -2), vec(4, 0, 7)},
		{vec(0, 0, 0), vec(5, 0, 1)}, {vec(5, 0, -2), vec(0, 0, 3)}, {vec(5, 9, 0), vec(0, -9, 2)}, {vec(0, 0, 0), vec(1999, 0, 1)}, // it ends inside, or behind
		{vec(5, 0, 1), vec(0, 0, 1)}, {vec(5, 0, 1), vec(0, 0, 9)}, {vec(5, 0, 2), vec(9, 0, 1)}, {vec(5, 0, 1), vec(0, 0, 2)}, {vec(5, 0, 1), vec(-1, 0, 1)}, // the eye is inside
		{vec(4, 0, 1), vec(3, 0, 1)}, {vec(5, 0, 0), vec(0, 0, 1)}, {vec(5, 0, 0), vec(0, 0, 3)}, {vec(4, -1, 0), vec(2, 2, 3)}, {vec(4, 0, 1), vec(2, 0, 1)}, {vec(6, 0, 1), vec(-1, 0, 1)}, {vec(4, -1, 0), vec(1, 1, 1)}, // the eye is on the border
		{vec(8, 0, 1), vec(-4, 0, 1)}, {vec(5, 0, -3), vec(0, 0, 6)}, {vec(3, -2, -1), vec(3, 3, 4)},
	} {
		checkWay(t, way[0], way[1], b, true)
	}
	wedge := []api.Body{body(0, 4, 0, 0, 4, 0, 0, 4)}
	checkWay(t, vec(1, 2, 0), vec(2, -2, 2), wedge, true)
	checkWay(t, vec(3, 3, 1), vec(-2, -2, 1), wedge, true)
	checkWay(t, vec(0, 5, 1), vec(5, -7, 1), wedge, true)
}

// P10.1, J3: any body gives shade, wherever it is in the list; no others do.
func TestSeveralBodies(t *testing.T) {
	near, far, behind, beside := around(vec(0, -20, 10), 2), around(vec(0, -80, 40), 5), around(vec(0, 50, -25), 9), around(vec(30, -50, 25), 9)
	for _, c := range []struct {
		bodies []api.Body
		want   bool
	}{
		{nil, false}, {[]api.Body{}, false}, {[]api.Body{near}, true}, {[]api.Body{far}, true}, {[]api.Body{behind}, false}, {[]api.Body{beside}, false}, {[]api.Body{around(vec(0, -105, 53), 5)}, false}, {[]api.Body{around(vec(0, -105, 53), 6)}, true},
		{[]api.Body{behind, beside}, false}, {[]api.Body{behind, beside, near}, true}, {[]api.Body{near, behind, beside}, true}, {[]api.Body{behind, far, beside}, true}, {[]api.Body{near, far}, true}, {[]api.Body{far, near}, true}, {[]api.Body{near, near}, true}, {[]api.Body{behind, behind}, false},
	} {
		checkWay(t, vec(0, 0, 0), vec(0, -100, 50), c.bodies, c.want)
	}
}

// P10.1, J3, J4: no bodies, as many as there may be, and one more.
func TestCounts(t *testing.T) {
	beside, in := around(vec(30, -50, 25), 9), shade()
	for _, n := range []int{0, 1, 2, mostBodies - 1, mostBodies, mostBodies + 1, mostBodies + 2, 2 * mostBodies, 100000} {
		for _, first := range []api.Body{beside, in} {
			for _, last := range []api.Body{beside, in} {
				bodies := slices.Repeat([]api.Body{beside}, n)
				if n > 0 {
					bodies[0], bodies[n-1] = first, last
				}
				for _, minute := range []int{720, 0} {
					v := look{example(), minute, vec(0, 0, 0), vec(0, -10, 5), rat(1, 1), bodies}
					isDark := minute == 0 || n > 0 && (equalBodies(bodies[0], in) || equalBodies(bodies[n-1], in))
					want, dazzled, wrong := isDark, !isDark, api.OK
					if n > mostBodies {
						want, dazzled, wrong = false, false, api.ErrLimit
					}
					if is, e := sun.Shaded(v.table, minute, v.eye, bodies); is != want || e != wrong {
						t.Errorf("Shaded of %s: %v, %v; want %v, %v", v.text(), is, e, want, wrong)
					}
					if is, e := sun.Glare(v.table, minute, v.eye, v.target, v.share, bodies); is != dazzled || e != wrong {
						t.Errorf("Glare of %s: %v, %v; want %v, %v", v.text(), is, e, dazzled, wrong)
					}
				}
			}
		}
	}
}

// P10.1, J4: targets in the direction of the sun, opposite to it, across and in between, near and far.
func TestTargets(t *testing.T) {
	dir := vec(0, -100, 50)
	for _, c := range []struct {
		target api.Vec
		share  api.Rat
		want   bool
	}{
		{vec(0, -2, 1), rat(1, 1), true}, {vec(0, -100, 50), rat(1, 1), true}, {vec(0, -2000, 1000), rat(1, 1), true}, {vec(0, -2000, 1000), rat(0, 1), true}, {vec(0, -2000, 999), rat(1, 1), false}, {vec(0, -2000, 999), rat(9999, 10000), true}, {vec(1, -2000, 1000), rat(1, 1), false}, {vec(1, -2000, 1000), rat(9999, 10000), true},
		{vec(0, 2, -1), rat(0, 1), false}, {vec(0, 2, -1), rat(1, 1), false}, {vec(0, 2000, -1000), rat(0, 1), false}, {vec(0, 10, -5), rat(1, 2), false},
		{vec(0, 5, 10), rat(0, 1), false}, {vec(0, 5, 10), rat(1, 10000), false}, {vec(7, 0, 0), rat(0, 1), false}, {vec(-7, -5, -10), rat(0, 1), false}, {vec(0, -5, -10), rat(1, 1), false}, {vec(2000, 0, 0), rat(1, 1), false},
		{vec(0, 5, 11), rat(0, 1), true}, {vec(0, 5, 11), rat(1, 1000), true}, {vec(0, 5, 11), rat(1, 1), false}, {vec(0, 5, 9), rat(0, 1), false}, {vec(2000, 0, 1), rat(0, 1), true}, {vec(2000, 0, 1), rat(1, 10000), false}, {vec(2000, 0, -1), rat(0, 1), false},
		{vec(0, -10, 0), rat(4, 5), true}, {vec(0, -10, 0), rat(7999, 10000), true}, {vec(0, -10, 0), rat(8001, 10000), false}, {vec(0, -10, 0), rat(1, 1), false}, {vec(0, -10, 0), rat(0, 1), true}, {vec(0, 0, 3), rat(1, 5), true}, {vec(0, 0, 3), rat(2001, 10000), false}, {vec(0, 0, 3), rat(1999, 10000), true}, {vec(0, 10, 0), rat(4, 5), false}, {vec(0, 10, 0), rat(0, 1), false},
		{vec(0, 0, 0), rat(0, 1), false}, {vec(0, 0, 0), rat(1, 2), false}, {vec(0, 0, 0), rat(1, 1), false},
	} {
		for _, eye := range []api.Vec{vec(0, 0, 0), vec(0, 100, -50), vec(-1000, 2000, 50), vec(1, -7, 13)} {
			v := look{always(dir), 3, eye, plus(eye, c.target), c.share, nil}
			if !isVector(v.target) {
				continue
			}
			if is := glare(t, v); is != c.want {
				t.Errorf("Glare of %s: %v", v.text(), is)
			}
		}
	}
}

// neighbours are the greatest share that is below n / d, or -1/1, and the least one that is above, or 2/1; the number is
// from 0 to 1.
func neighbours(n, d int) (below, above api.Rat) {
	below, above = rat(-1, 1), rat(2, 1)
	for q := 1; q <= mostOfShare; q++ {
		if low := rat((n*q+d-1)/d-1, q); low.N >= 0 && less(below, low) {
			below = low
		}
		if high := rat(n*q/d+1, q); high.N <= q && less(high, above) {
			above = high
		}
	}
	return below, above
}

// P10.1, J4: shares at the angle itself, and as near to it as can be.
func TestAngles(t *testing.T) {
	at, beside := 0, 0
	checkAngle := func(dir, gaze api.Vec) {
		s, squares := dot(dir, gaze), dot(dir, dir)*dot(gaze, gaze)
		below, above := neighbours(s*s, squares)
		angle := reduced(s*s, squares)
		for _, c := range []struct {
			share api.Rat
			want  bool
		}{{below, true}, {angle, true}, {above, false}} {
			if !isShare(c.share) {
				continue
			}
			v := look{always(dir), 1, vec(3, 2, 1), plus(vec(3, 2, 1), gaze), c.share, nil}
			if is := glare(t, v); is != (c.want && s > 0) {
				t.Errorf("Glare of %s: %v", v.text(), is)
			}
			if c.share == angle {
				at++
			} else {
				beside++
			}
		}
	}
	random := rand.New(rand.NewPCG(10, 3))
	for _, size := range []int{1, 2, 3, 6, 20, 300, 1990} {
		for range 120 {
			dir, gaze := randomPoint(random, size), randomPoint(random, size)
			dir.Z = 1 + max(dir.Z, -dir.Z)
			if gaze != vec(0, 0, 0) {
				checkAngle(dir, gaze)
			}
		}
	}
	if at < 300 || beside < 1000 {
		t.Errorf("only %d shares at the angle, %d beside it", at, beside)
	}
}

func shares() []api.Rat {
	return []api.Rat{rat(0, 1), rat(1, 1), rat(1, 2), rat(4, 5), rat(9, 10), rat(1, 9999), rat(1, 10000), rat(9999, 10000), rat(3333, 10000), rat(9998, 9999)}
}

func notShares() []api.Rat {
	return []api.Rat{
		rat(0, 0), rat(1, 0), rat(-1, 0), rat(0, 2), rat(2, 2), rat(2, 4), rat(5000, 10000), rat(10000, 10000), rat(0, 10000), rat(0, -1), rat(1, -2), rat(-1, -2), rat(-1, -1), // no numbers
		rat(-1, 1), rat(-1, 2), rat(-1, 10000), rat(2, 1), rat(3, 2), rat(10001, 10000), rat(10000, 1), rat(10001, 1), rat(1000000000, 1), // not between 0 and 1
		rat(1, 10001), rat(0, 10001), rat(5000, 10001), rat(10000, 10001), rat(10001, 10002), rat(1, 1000000000), rat(999999999, 1000000000), rat(10001, 10001), // too fine
		rat(1, 1<<32), rat(1, 1<<32+2), rat(1<<32, 1), rat(1<<32+1, 1<<32+2), rat(math.MaxInt, math.MaxInt), rat(math.MinInt, math.MinInt), rat(math.MinInt, 1), rat(0, math.MinInt), rat(1, math.MaxInt), rat(math.MaxInt, 2),
	}
}

// P10.1, J4: shares of an angle that are valid, and others, whether or not there could be glare.
func TestShares(t *testing.T) {
	direct := look{table: example(), minute: 720, eye: vec(0, 0, 0), target: vec(0, -10, 5)}
	opposite, self, dark, down, downSelf := direct, direct, direct, direct, direct
	opposite.target, self.target, downSelf.target = vec(0, 10, -5), vec(0, 0, 0), vec(0, 0, 0)
	dark.bodies, down.minute, downSelf.minute = []api.Body{shade()}, 0, 0
	for i, v := range []look{direct, opposite, self, dark, down, downSelf} {
		for _, v.share = range shares() {
			if is := glare(t, v); is != (i == 0) {
				t.Errorf("Glare of %s: %v", v.text(), is)
			}
		}
		for _, v.share = range notShares() {
			if is, e := sun.Glare(v.table, v.minute, v.eye, v.target, v.share, v.bodies); is || e != api.ErrArg {
				t.Errorf("Glare of %s: %v, %v", v.text(), is, e)
			}
		}
	}
}

// P10.1, J3, J4: an eye plus the direction, as far as can be and further, with the sun up and not up, and with the target
// equal to the eye.
func TestRange(t *testing.T) {
	for _, c := range []struct {
		dir, eye api.Vec
		e        api.Errno
	}{
		{vec(500, 0, 10), vec(1500, 0, 0), api.OK}, {vec(500, 0, 10), vec(1501, 0, 0), api.ErrRange}, {vec(500, 0, 10), vec(2000, 0, 0), api.ErrRange}, {vec(500, 0, 10), vec(-2000, 0, 0), api.OK},
		{vec(-500, 0, 10), vec(-1500, 0, 0), api.OK}, {vec(-500, 0, 10), vec(-1501, 0, 0), api.ErrRange}, {vec(-500, 0, 10), vec(-2000, 0, 0), api.ErrRange}, {vec(-500, 0, 10), vec(2000, 0, 0), api.OK},
		{vec(0, 500, 10), vec(7, 1500, 0), api.OK}, {vec(0, 500, 10), vec(7, 1501, 0), api.ErrRange}, {vec(0, 500, 10), vec(7, -2000, 0), api.OK},
		{vec(0, -500, 10), vec(7, -1500, 0), api.OK}, {vec(0, -500, 10), vec(7, -1501, 0), api.ErrRange}, {vec(0, -500, 10), vec(7, 2000, 0), api.OK},
		{vec(0, 0, 500), vec(7, 0, 1500), api.OK}, {vec(0, 0, 500), vec(7, 0, 1501), api.ErrRange}, {vec(0, 0, 500), vec(7, 0, -2000), api.OK},
		{vec(0, 0, 2000), vec(0, 0, 0), api.OK}, {vec(0, 0, 2000), vec(0, 0, 1), api.ErrRange}, {vec(2000, 0, 1), vec(1, 0, 0), api.ErrRange}, {vec(-2000, 0, 1), vec(-1, 0, 0), api.ErrRange}, {vec(2000, 2000, 2000), vec(0, 0, 0), api.OK}, {vec(2000, -2000, 2000), vec(-2000, 2000, 0), api.OK}, {vec(2000, -2000, 2000), vec(-2000, 2000, 1), api.ErrRange},
	} {
		v := look{always(c.dir), 0, c.eye, plus(c.eye, vec(0, 0, 1)), rat(0, 1), nil}
		if is, e := sun.Shaded(v.table, 0, v.eye, nil); is || e != c.e {
			t.Errorf("Shaded of %s: %v, %v; want %v", v.text(), is, e, c.e)
		}
		if is, e := sun.Glare(v.table, 0, v.eye, v.target, v.share, nil); is != (c.e == api.OK) || e != c.e {
			t.Errorf("Glare of %s: %v, %v; want %v", v.text(), is, e, c.e)
		}
		self, down := v, v
		self.target = v.eye
		if glare(t, self) {
			t.Errorf("Glare of %s: true", self.text())
		}
		down.table = always(times(-1, c.dir))
		if !shaded(t, down) || glare(t, down) {
			t.Errorf("%s: no shade, or glare", down.text())
		}
	}
}

// P10.1, J4: a target that is as far from the eye as can be, and further, with the sun up and not up, in the shade and
// out of it.
func TestFarTargets(t *testing.T) {
	for _, unit := range []api.Vec{vec(1, 0, 0), vec(-1, 0, 0), vec(0, 1, 0), vec(0, -1, 0), vec(0, 0, 1), vec(0, 0, -1)} {
		eye := times(-1000, unit)
		for _, bodies := range [][]api.Body{nil, {around(plus(eye, vec(0, 0, 5)), 1)}} {
			for distance := most - 1; distance <= most+2; distance++ {
				v := look{always(vec(0, 0, 10)), 0, eye, plus(eye, times(distance, unit)), rat(0, 1), bodies}
				want, wrong := unit.Z == 1 && len(bodies) == 0, api.OK
				if distance > most {
					want, wrong = false, api.ErrRange
				}
				if is, e := sun.Glare(v.table, 0, v.eye, v.target, v.share, bodies); is != want || e != wrong {
					t.Errorf("Glare of %s: %v, %v; want %v, %v", v.text(), is, e, want, wrong)
				}
				if is := shaded(t, v); is != (len(bodies) > 0) {
					t.Errorf("Shaded of %s: %v", v.text(), is)
				}
				v.table = always(vec(0, 0, -10))
				if glare(t, v) || !shaded(t, v) {
					t.Errorf("%s: glare, or no shade", v.text())
				}
			}
		}
	}
}

// notBodies are bodies that are not valid.
func notBodies() []api.Body {
	list := []api.Body{{}, body(3, 3, 4, -1, 6, -1, 6, 1, 4, 1), body(3, 0, 4, -1, 6, -1, 6, 1, 4, 1), body(0, 3, 4, -1, 6, -1), body(0, 3, 6, -1, 6, 1, 4, 1, 4, -1), body(0, 3, 4, -1, 4, 1, 6, 1, 6, -1), body(0, 3, 0, 2, 1, 1, 2, 0, 4, -1, 6, 0, 7, 3, 6, 4, 5, 5, 1, 5), {Base: make([]api.Point, 100000), Low: 0, High: 3}}
	for _, n := range beyond {
		list = append(list, body(0, n, 4, -1, 6, -1, 6, 1, 4, 1), body(n, 3, 4, -1, 6, -1, 6, 1, 4, 1), body(0, 3, 4, n, 6, n, 6, 1, 4, 1))
	}
	return list
}

// P10.1, J3, J4: points and bodies that are not valid, with the sun up and not up, with the target equal to the eye.
func TestNotPointsAndBodies(t *testing.T) {
	for _, minute := range []int{720, 0} {
		right := look{example(), minute, vec(0, 0, 0), vec(0, -10, 5), rat(1, 1), nil}
		for _, n := range beyond {
			for _, p := range []api.Vec{vec(n, 0, 0), vec(0, n, 0), vec(0, 0, n), vec(n, n, n)} {
				v, w, both := right, right, right
				v.eye, w.target, both.eye, both.target = p, p, p, p
				for _, wrong := range []look{v, w, both} {
					if is, e := sun.Glare(wrong.table, minute, wrong.eye, wrong.target, wrong.share, nil); is || e != api.ErrArg {
						t.Errorf("Glare of %s: %v, %v", wrong.text(), is, e)
					}
				}
				if is, e := sun.Shaded(v.table, minute, p, nil); is || e != api.ErrArg {
					t.Errorf("Shaded of %s: %v, %v", v.text(), is, e)
				}
			}
		}
		for _, wrong := range notBodies() {
			for _, bodies := range [][]api.Body{{wrong}, {shade(), wrong}, {wrong, shade()}, {around(vec(50, 50, 50), 1), wrong}, append(slices.Repeat([]api.Body{shade()}, mostBodies-1), wrong)} {
				v := right
				v.bodies = bodies
				if is, e := sun.Shaded(v.table, minute, v.eye, bodies); is || e != api.ErrArg {
					t.Errorf("Shaded of %s: %v, %v", v.text(), is, e)
				}
				for _, target := range []api.Vec{v.target, v.eye} {
					if is, e := sun.Glare(v.table, minute, v.eye, target, v.share, bodies); is || e != api.ErrArg {
						t.Errorf("Glare of %s: %v, %v", v.text(), is, e)
					}
				}
			}
		}
	}
}

// P10.1, J3, J4: everything that can be wrong, alone and together with the rest.
func TestErrors(t *testing.T) {
	long := append(slices.Repeat([]api.Body{shade()}, mostBodies), around(vec(9, 9, 9), 1))
	came := map[api.Errno]int{}
	answers := map[bool]int{}
	for _, table := range [][]api.Sun{example(), {{From: 5, Dir: vec(0, -100, 50)}}, always(vec(0, 0, 1)), nil, {{From: 5, Dir: vec(0, 0, 0)}}, {{From: 1440, Dir: vec(0, -100, 50)}}, rising(101, 0, 1)} {
		for _, minute := range []int{720, 0, mostMinute, -1, mostMinute + 1} {
			for _, eye := range []api.Vec{vec(0, 0, 0), vec(0, -1901, 0), vec(0, 1500, 1999), vec(0, 0, most+1)} {
				for _, target := range []api.Vec{eye, vec(0, -10, 5), vec(0, -1999, 999), vec(0, -most-1, 0)} {
					for _, share := range []api.Rat{rat(0, 1), rat(1, 1), rat(2, 2), rat(-1, 2), rat(1, 10001)} {
						for _, bodies := range [][]api.Body{nil, {shade()}, {shade(), {}}, long, append(slices.Clone(long), api.Body{}), long[:mostBodies]} {
							v := look{table, minute, eye, target, share, bodies}
							checkLook(t, v)
							_, e := shadedOf(v)
							is, f := glareOf(v)
							came[e]++
							came[f]++
							answers[is]++
						}
					}
				}
			}
		}
	}
	if came[api.OK] < 500 || came[api.ErrRange] < 200 || came[api.ErrArg] < 2000 || came[api.ErrLimit] < 2000 || answers[true] < 10 {
		t.Errorf("errors: %v; glare: %v", came, answers)
	}
}

// P10.1, J3, J4: everything of all sizes.
func TestLooks(t *testing.T) {
	came, dark, dazzled := map[api.Errno]int{}, map[bool]int{}, map[bool]int{}
	for _, v := range looks() {
		checkLook(t, v)
		is, e := shadedOf(v)
		came[e]++
		if e == api.OK && isUp(v) {
			dark[is]++
			is, _ = glareOf(v)
			dazzled[is]++
		}
	}
	if came[api.ErrRange] < 20 || dark[true] < 300 || dark[false] < 300 || dazzled[true] < 100 {
		t.Errorf("errors: %v; in the shade: %v; glare: %v", came, dark, dazzled)
	}
}

// DOC.md, Rules: functions do not modify their arguments, and the same arguments lead to the same results.
func TestArgumentsStay(t *testing.T) {
	for _, v := range looks() {
		table, bodies := slices.Clone(v.table), cloneBodies(v.bodies)
		for range 2 {
			checkLook(t, v)
			direction(t, v.table, v.minute)
		}
		if !slices.Equal(v.table, table) || !slices.EqualFunc(v.bodies, bodies, equalBodies) {
			t.Fatalf("changed: %s", v.text())
		}
	}
}
