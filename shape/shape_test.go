package shape_test

import (
	"math/rand/v2"
	"slices"
	"testing"

	"barcarole/api"
	"barcarole/shape"
)

// P8.1, H1.
func TestValid(t *testing.T) {
	corners := map[int]int{}
	for _, b := range bodies() {
		corners[len(b.Base)]++
		if !shape.Valid(b) || !isBody(b) {
			t.Errorf("Valid(%v) is false", b)
		}
	}
	for n := 3; n <= mostCorners; n++ {
		if corners[n] < 3 {
			t.Errorf("only %d bodies with %d corners", corners[n], n)
		}
	}
	for _, b := range notBodies() {
		if shape.Valid(b) {
			t.Errorf("Valid(%v) is true", brief(b))
		}
	}
}

// P8.1, H1: all heights and coordinates near the limits.
func TestValidLimits(t *testing.T) {
	near := []int{-most - 2, -most - 1, -most, 1 - most, -1, 0, 1, most - 1, most, most + 1, most + 2}
	for _, m := range near {
		for _, n := range near {
			for _, b := range []api.Body{
				body(m, n, 0, 0, 4, 0, 0, 4), body(0, 5, m, n, m+1, n, m, n+1), body(0, 5, m, n, m+1, n+1, m, n+1), body(m, m+1, m, n, m+1, n, m+1, n+1),
				body(0, 5, m, 0, n, 0, n, 4, m, 4), body(0, 5, 0, m, 4, m, 4, n, 0, n), body(-7, 7, m, 0, 0, m, n, 0, 0, n), body(-most, most, m, m, n, m, m, n),
			} {
				if got, want := shape.Valid(b), isBody(b); got != want {
					t.Errorf("Valid(%v): %v", b, got)
				}
			}
		}
	}
}

// P8.1, H1: all lists of up to 5 corners in a small square, wherever it lies.
func TestValidSmall(t *testing.T) {
	for _, c := range []struct{ size, length int }{{2, 6}, {3, 5}, {4, 4}} {
		count := 0
		for _, corner := range base(0, 0, -1, -1, most+1-c.size, -most, -most, most+1-c.size) {
			var list []api.Point
			var check func(more int)
			check = func(more int) {
				b := api.Body{Base: list, Low: -1, High: 0}
				if got, want := shape.Valid(b), isBody(b); got != want {
					t.Errorf("Valid(%v): %v", b, got)
				} else if want {
					count++
				}
				if more == 0 {
					return
				}
				for x := range c.size {
					for y := range c.size {
						list = append(list, api.Point{X: corner.X + x, Y: corner.Y + y})
						check(more - 1)
						list = list[:len(list)-1]
					}
				}
			}
			check(c.length)
		}
		if want := map[int]int{2: 5, 3: 110, 4: 1000}[c.size] * 4; count < want {
			t.Errorf("size %d: only %d bodies", c.size, count)
		}
	}
}

// P8.1, H1: bodies with one corner more or less, elsewhere, or exchanged with another one.
func TestValidChanged(t *testing.T) {
	check := func(b api.Body, corners []api.Point) {
		changed := api.Body{Base: corners, Low: b.Low, High: b.High}
		if got, want := shape.Valid(changed), isBody(changed); got != want {
			t.Errorf("Valid(%v): %v", changed, got)
		}
	}
	for _, b := range bodies() {
		for i, p := range b.Base {
			check(b, slices.Delete(slices.Clone(b.Base), i, i+1))
			for j := range i {
				corners := slices.Clone(b.Base)
				corners[i], corners[j] = corners[j], corners[i]
				check(b, corners)
			}
			for _, q := range append(flatPoints(b), api.Point{X: p.X + 2, Y: p.Y + 1}, api.Point{X: p.X - 2, Y: p.Y}) {
				corners := slices.Clone(b.Base)
				corners[i] = q
				check(b, corners)
				check(b, slices.Insert(slices.Clone(b.Base), i+1, q))
			}
		}
	}
}

// P8.1, H2: the examples, points on a corner, an edge, the bottom and the top, and next to them.
func TestInsideCases(t *testing.T) {
	b := example()
	three := body(-2, 3, 0, 0, 4, 0, 0, 4)
	eight := body(0, 10, 0, 3, 3, 0, 7, 0, 10, 3, 10, 7, 7, 10, 3, 10, 0, 7)
	great := box(vec(-most, -most, -most), vec(most, most, most))
	for _, c := range []struct {
		b    api.Body
		v    api.Vec
		want bool
	}{
		{b, vec(5, 5, 5), true}, {b, vec(0, 5, 5), false}, {b, vec(1, 5, 5), true}, {b, vec(-1, 5, 5), false}, {b, vec(10, 5, 5), false}, {b, vec(9, 5, 5), true}, {b, vec(11, 5, 5), false},
		{b, vec(5, 0, 5), false}, {b, vec(5, 1, 5), true}, {b, vec(5, 10, 5), false}, {b, vec(5, 9, 5), true}, {b, vec(5, 5, 0), false}, {b, vec(5, 5, 1), true}, {b, vec(5, 5, -1), false}, {b, vec(5, 5, 10), false}, {b, vec(5, 5, 9), true}, {b, vec(5, 5, 11), false},
		{b, vec(0, 0, 0), false}, {b, vec(0, 0, 5), false}, {b, vec(10, 10, 5), false}, {b, vec(10, 10, 10), false}, {b, vec(0, 5, 0), false}, {b, vec(1, 1, 1), true}, {b, vec(9, 9, 9), true}, {b, vec(20, 0, 5), false}, {b, vec(20, 5, 5), false},
		{b, vec(5, 5, most), false}, {b, vec(5, 5, -most), false}, {b, vec(most, most, most), false}, {b, vec(-most, 5, 5), false},
		{three, vec(1, 1, 0), true}, {three, vec(2, 2, 0), false}, {three, vec(1, 2, 0), true}, {three, vec(3, 1, 0), false}, {three, vec(2, 1, 2), true}, {three, vec(2, 1, 3), false}, {three, vec(2, 1, -2), false}, {three, vec(2, 1, -1), true}, {three, vec(3, 3, 0), false}, {three, vec(0, 0, 0), false}, {three, vec(4, 0, 0), false},
		{eight, vec(1, 3, 5), true}, {eight, vec(1, 2, 5), false}, {eight, vec(2, 2, 5), true}, {eight, vec(1, 1, 5), false}, {eight, vec(8, 1, 5), false}, {eight, vec(8, 2, 5), true}, {eight, vec(9, 8, 5), false}, {eight, vec(8, 8, 5), true}, {eight, vec(1, 8, 5), false}, {eight, vec(2, 8, 5), true}, {eight, vec(0, 5, 5), false}, {eight, vec(5, 10, 5), false},
		{great, vec(0, 0, 0), true}, {great, vec(most-1, most-1, most-1), true}, {great, vec(1-most, 1-most, 1-most), true}, {great, vec(most, 0, 0), false}, {great, vec(0, 0, most), false}, {great, vec(-most, -most, -most), false}, {great, vec(0, -most, 0), false},
	} {
		if got := inside(t, c.b, c.v); got != c.want {
			t.Errorf("Inside(%v, %v): %v", c.b, c.v, got)
		}
	}
}

// P8.1, H2.
func TestInside(t *testing.T) {
	came := map[bool]int{}
	for _, b := range bodies() {
		for _, v := range append(pointsFor(b), grid(-2, 3)...) {
			want := isIn(b, v)
			came[want]++
			if got := inside(t, b, v); got != want {
				t.Errorf("Inside(%v, %v): %v", b, v, got)
			}
		}
	}
	if came[true] < 1000 || came[false] < 10000 {
		t.Errorf("answers: %v", came)
	}
}

// P8.1, H2: all points around small bodies.
func TestInsideSmall(t *testing.T) {
	for _, corners := range append(smallBases(3), smallBases(4)[:1000]...) {
		b := api.Body{Base: corners, Low: 0, High: 2}
		for _, v := range grid(-1, 4) {
			if got := inside(t, b, v); got != isIn(b, v) {
				t.Errorf("Inside(%v, %v): %v", b, v, got)
			}
		}
	}
}

// P8.1, H2.
func TestInsideErrors(t *testing.T) {
	check := func(b api.Body, v api.Vec) {
		if is, e := shape.Inside(b, v); is || e != api.ErrArg {
			t.Errorf("Inside(%v, %v): %v, %v", brief(b), v, is, e)
		}
	}
	for _, b := range bodies() {
		for _, v := range notPoints() {
			check(b, v)
		}
	}
	for _, b := range notBodies() {
		for _, v := range append(grid(0, 3), vec(5, 5, 5), vec(0, 1, 5), vec(-most, 0, most), vec(most+1, 5, 5), vec(5, 5, -most-1)) {
			check(b, v)
		}
	}
}

func checkMove(t *testing.T, b api.Body, by api.Vec) api.Errno {
	t.Helper()
	want, wrong := moved(b, by), api.OK
	if !isBody(want) {
		want, wrong = api.Body{}, api.ErrRange
	}
	if got, e := shape.Move(b, by); !equalBodies(got, want) || e != wrong {
		t.Errorf("Move(%v, %v): %v, %v; want %v, %v", b, by, got, e, want, wrong)
	}
	return wrong
}

// P8.1, H3.
func TestMoveCases(t *testing.T) {
	b := example()
	for _, c := range []struct {
		by   api.Vec
		want api.Body
		e    api.Errno
	}{
		{vec(0, 0, 0), b, api.OK},
		{vec(1, 2, 3), body(3, 13, 1, 2, 11, 2, 11, 12, 1, 12), api.OK},
		{vec(-7, 5, -10), body(-10, 0, -7, 5, 3, 5, 3, 15, -7, 15), api.OK},
		{vec(1990, 0, 0), box(vec(1990, 0, 0), vec(2000, 10, 10)), api.OK}, {vec(1991, 0, 0), api.Body{}, api.ErrRange},
		{vec(0, 1990, 0), box(vec(0, 1990, 0), vec(10, 2000, 10)), api.OK}, {vec(0, 1991, 0), api.Body{}, api.ErrRange},
		{vec(0, 0, 1990), box(vec(0, 0, 1990), vec(10, 10, 2000)), api.OK}, {vec(0, 0, 1991), api.Body{}, api.ErrRange},
		{vec(-2000, 0, 0), box(vec(-2000, 0, 0), vec(-1990, 10, 10)), api.OK}, {vec(-2001, 0, 0), api.Body{}, api.ErrArg},
		{vec(-2000, -2000, -2000), box(vec(-2000, -2000, -2000), vec(-1990, -1990, -1990)), api.OK}, {vec(2000, 2000, 2000), api.Body{}, api.ErrRange}, {vec(2001, 2000, 2000), api.Body{}, api.ErrArg},
		{vec(0, 0, 2001), api.Body{}, api.ErrArg}, {vec(0, -2001, 2000), api.Body{}, api.ErrArg},
	} {
		if got, e := shape.Move(b, c.by); !equalBodies(got, c.want) || e != c.e {
			t.Errorf("by %v: %v, %v; want %v, %v", c.by, got, e, c.want, c.e)
		}
	}
}

// P8.1, H3: moves in all directions, as far as can be and one further.
func TestMove(t *testing.T) {
	came := map[api.Errno]int{}
	random := rand.New(rand.NewPCG(8, 2))
	for _, b := range bodies() {
		low, high := vec(most, most, b.Low), vec(-most, -most, b.High)
		for _, p := range b.Base {
			low, high = vec(min(low.X, p.X), min(low.Y, p.Y), b.Low), vec(max(high.X, p.X), max(high.Y, p.Y), b.High)
		}
		down, up := minus(vec(-most, -most, -most), low), minus(vec(most, most, most), high)
		for _, x := range []int{down.X - 1, down.X, 0, up.X, up.X + 1} {
			for _, y := range []int{down.Y - 1, down.Y, 0, up.Y, up.Y + 1} {
				for _, z := range []int{down.Z - 1, down.Z, 0, up.Z, up.Z + 1} {
					if by := vec(x, y, z); isVector(by) {
						came[checkMove(t, b, by)]++
					}
				}
			}
		}
		for _, size := range []int{2, 100, most} {
			any := func() int { return random.IntN(2*size+1) - size }
			came[checkMove(t, b, vec(any(), any(), any()))]++
		}
	}
	if came[api.OK] < 500 || came[api.ErrRange] < 500 {
		t.Errorf("answers: %v", came)
	}
}

// P8.1, H3: what is not valid, also where the result would be out of range or a valid body.
func TestMoveErrors(t *testing.T) {
	check := func(b api.Body, by api.Vec) {
		if got, e := shape.Move(b, by); !isNoBody(got) || e != api.ErrArg {
			t.Errorf("Move(%v, %v): %v, %v", brief(b), by, brief(got), e)
		}
	}
	for _, b := range bodies() {
		for _, by := range notPoints() {
			check(b, by)
		}
	}
	for _, b := range notBodies() {
		for _, by := range []api.Vec{{}, vec(1, 1, 1), vec(-1, -1, -1), vec(1, 0, 0), vec(0, -1, 0), vec(0, 0, 1), vec(0, 0, -1), vec(most, most, most), vec(-most, -most, -most), vec(0, most, 0), vec(most+1, 0, 0), vec(0, 0, -most-1)} {
			check(b, by)
		}
	}
}

// P8.1, H4: the examples, and ways that begin or end inside, on the border or outside, lie along an edge or a face,
// touch a corner or an edge alone, go straight up or down, or miss the body.
func TestClipCases(t *testing.T) {
	b := example()
	three := body(-2, 3, 0, 0, 4, 0, 0, 4)
	eight := body(0, 10, 0, 3, 3, 0, 7, 0, 10, 3, 10, 7, 7, 10, 3, 10, 0, 7)
	great := box(vec(-most, -most, -most), vec(most, most, most))
	for _, c := range []struct {
		b         api.Body
		from, to  api.Vec
		low, high api.Rat
		want      bool
	}{
		{b, vec(-10, 5, 5), vec(30, 5, 5), api.Rat{N: 1, D: 4}, api.Rat{N: 1, D: 2}, true}, {b, vec(-10, 0, 5), vec(30, 0, 5), zero, zero, false},
		{b, vec(30, 5, 5), vec(-10, 5, 5), api.Rat{N: 1, D: 2}, api.Rat{N: 3, D: 4}, true}, {b, vec(5, -10, 5), vec(5, 30, 5), api.Rat{N: 1, D: 4}, api.Rat{N: 1, D: 2}, true},
		{b, vec(2, 5, 5), vec(8, 5, 5), zero, one, true}, {b, vec(5, 5, 5), vec(5, 5, 6), zero, one, true}, {b, vec(1, 1, 1), vec(9, 9, 9), zero, one, true},
		{b, vec(5, 5, 5), vec(25, 5, 5), zero, api.Rat{N: 1, D: 4}, true}, {b, vec(25, 5, 5), vec(5, 5, 5), api.Rat{N: 3, D: 4}, one, true},
		{b, vec(0, 5, 5), vec(10, 5, 5), zero, one, true}, {b, vec(0, 5, 5), vec(5, 5, 5), zero, one, true}, {b, vec(0, 5, 5), vec(20, 5, 5), zero, api.Rat{N: 1, D: 2}, true}, {b, vec(0, 5, 5), vec(-20, 5, 5), zero, zero, false}, {b, vec(-20, 5, 5), vec(0, 5, 5), zero, zero, false}, {b, vec(-20, 5, 5), vec(10, 5, 5), api.Rat{N: 2, D: 3}, one, true},
		{b, vec(0, 0, 0), vec(10, 10, 10), zero, one, true}, {b, vec(10, 0, 0), vec(0, 10, 10), zero, one, true}, {b, vec(0, 0, 0), vec(-5, -5, -5), zero, zero, false}, {b, vec(-5, -5, -5), vec(15, 15, 15), api.Rat{N: 1, D: 4}, api.Rat{N: 3, D: 4}, true},
		{b, vec(0, 0, 0), vec(10, 0, 0), zero, zero, false}, {b, vec(0, 0, 0), vec(0, 0, 10), zero, zero, false}, {b, vec(0, 0, -5), vec(0, 0, 15), zero, zero, false}, {b, vec(-5, 10, 10), vec(15, 10, 10), zero, zero, false}, {b, vec(-5, 0, 5), vec(5, 0, 5), zero, zero, false},
		{b, vec(0, 2, 2), vec(0, 8, 7), zero, zero, false}, {b, vec(2, 2, 0), vec(8, 7, 0), zero, zero, false}, {b, vec(-3, -3, 10), vec(13, 13, 10), zero, zero, false}, {b, vec(-3, 10, 1), vec(13, 10, 9), zero, zero, false}, {b, vec(10, 2, -5), vec(10, 3, 15), zero, zero, false},
		{b, vec(-5, 5, 5), vec(5, -5, 5), zero, zero, false}, {b, vec(-5, 5, 5), vec(5, -4, 5), api.Rat{N: 1, D: 2}, api.Rat{N: 5, D: 9}, true}, {b, vec(-5, 5, 5), vec(4, -5, 5), zero, zero, false}, {b, vec(-5, 5, -5), vec(5, -5, 5), zero, zero, false}, {b, vec(-5, 5, 5), vec(5, 5, 15), zero, zero, false}, {b, vec(-5, 5, 6), vec(5, 5, 14), zero, zero, false}, {b, vec(-5, 5, 5), vec(6, 5, 15), api.Rat{N: 5, D: 11}, api.Rat{N: 1, D: 2}, true},
		{b, vec(5, 5, -10), vec(5, 5, 30), api.Rat{N: 1, D: 4}, api.Rat{N: 1, D: 2}, true}, {b, vec(5, 5, 30), vec(5, 5, -10), api.Rat{N: 1, D: 2}, api.Rat{N: 3, D: 4}, true}, {b, vec(5, 5, 10), vec(5, 5, 30), zero, zero, false}, {b, vec(5, 5, 9), vec(5, 5, 29), zero, api.Rat{N: 1, D: 20}, true}, {b, vec(5, 5, 0), vec(5, 5, 10), zero, one, true}, {b, vec(0, 5, -10), vec(0, 5, 30), zero, zero, false}, {b, vec(11, 5, -10), vec(11, 5, 30), zero, zero, false}, {b, vec(1, 1, -1), vec(1, 1, 11), api.Rat{N: 1, D: 12}, api.Rat{N: 11, D: 12}, true},
		{b, vec(-10, 5, 5), vec(-1, 5, 5), zero, zero, false}, {b, vec(11, 5, 5), vec(30, 5, 5), zero, zero, false}, {b, vec(-10, 11, 5), vec(30, 11, 5), zero, zero, false}, {b, vec(-10, 5, 11), vec(30, 5, 11), zero, zero, false}, {b, vec(-10, 5, -1), vec(30, 5, -1), zero, zero, false}, {b, vec(-10, 5, 20), vec(30, 5, 21), zero, zero, false}, {b, vec(-30, 5, 5), vec(30, 65, 5), zero, zero, false}, {b, vec(11, 11, 11), vec(12, 12, 12), zero, zero, false},
		{three, vec(-3, 5, 1), vec(6, -1, 2), api.Rat{N: 1, D: 3}, api.Rat{N: 2, D: 3}, true}, {three, vec(1, 1, -7), vec(2, 1, 7), api.Rat{N: 5, D: 14}, api.Rat{N: 5, D: 7}, true}, {three, vec(0, 4, 0), vec(4, 0, 0), zero, zero, false}, {three, vec(-1, 5, 0), vec(5, -1, 1), zero, zero, false}, {three, vec(4, -3, 0), vec(4, 3, 0), zero, zero, false}, {three, vec(0, 0, -2), vec(4, 4, 3), zero, api.Rat{N: 1, D: 2}, true},
		{eight, vec(-7, 3, -1), vec(19, 13, 12), api.Rat{N: 7, D: 26}, api.Rat{N: 7, D: 12}, true}, {eight, vec(-1, 5, -2), vec(11, 6, 13), api.Rat{N: 2, D: 15}, api.Rat{N: 4, D: 5}, true}, {eight, vec(-4, 7, 5), vec(7, -4, 5), zero, zero, false}, {eight, vec(-3, 7, 5), vec(7, -4, 5), api.Rat{N: 3, D: 10}, api.Rat{N: 7, D: 11}, true},
		{great, vec(-most, -most, -most), vec(most, most, most), zero, one, true}, {great, vec(-most, -most, 0), vec(most, 1-most, 0), zero, one, true}, {great, vec(-most, -most, -most), vec(most, most, -most), zero, zero, false}, {great, vec(-most, 0, 0), vec(-most, 1, 1), zero, zero, false}, {great, vec(0, 0, -most), vec(0, 0, most), zero, one, true},
	} {
		low, high, is := clip(t, c.b, c.from, c.to)
		if low != c.low || high != c.high || is != c.want {
			t.Errorf("Clip(%v, %v, %v): %v, %v, %v", c.b, c.from, c.to, low, high, is)
		}
		checkClip(t, c.b, c.from, c.to)
		checkClip(t, c.b, c.to, c.from)
	}
}

// P8.1, H4: parts with great numerators and denominators, some of which hardly differ.
func TestClipGreatParts(t *testing.T) {
	narrow := api.Body{Base: thin(), Low: -1, High: 1}
	wedge := body(-1, 1, -1999, -1998, 0, 0, -1997, -1996)
	for _, c := range []struct {
		b         api.Body
		from, to  api.Vec
		low, high api.Rat
		want      bool
	}{
		{narrow, vec(-2000, 2000, 0), vec(2000, -1999, 0), api.Rat{N: 15995999, D: 31984001}, api.Rat{N: 2000, D: 3999}, true},
		{narrow, vec(-2000, 1999, 0), vec(1999, -2000, 0), api.Rat{N: 15992000, D: 31980003}, api.Rat{N: 4000, D: 7999}, true},
		{narrow, vec(-2000, -2000, 0), vec(1999, 1999, 0), zero, zero, false},
		{narrow, vec(-1999, -1999, 0), vec(2000, 1999, 0), zero, zero, false},
		{wedge, vec(-1999, 2000, 0), vec(1998, -1999, 0), api.Rat{N: 7984004, D: 15964015}, api.Rat{N: 7992002, D: 15980007}, true},
		{wedge, vec(1998, -1999, 0), vec(-1999, 2000, 0), api.Rat{N: 7988005, D: 15980007}, api.Rat{N: 7980011, D: 15964015}, true},
		{wedge, vec(-2000, 1999, 0), vec(1999, -1998, 0), zero, zero, false}, // as close to the corner, on its other side
		{wedge, vec(1999, -1998, 0), vec(-2000, 1999, 0), zero, zero, false},
		{wedge, vec(-2000, 2000, 0), vec(2000, -2000, 0), zero, zero, false}, // through the corner
	} {
		low, high, is := clip(t, c.b, c.from, c.to)
		if low != c.low || high != c.high || is != c.want {
			t.Errorf("Clip(%v, %v, %v): %v, %v, %v", c.b, c.from, c.to, low, high, is)
		}
		checkClip(t, c.b, c.from, c.to)
	}
}

// P8.1, H4: all ways between points around small bodies.
func TestClipSmall(t *testing.T) {
	came := map[bool]int{}
	for _, c := range []struct {
		b        api.Body
		from, to int
	}{{box(vec(0, 0, 0), vec(3, 3, 3)), -1, 4}, {body(0, 3, 0, 0, 3, 0, 0, 3), -1, 4}, {body(0, 2, 0, 1, 1, 0, 3, 1, 2, 3), -1, 3}, {body(-1, 1, -2, 0, -1, -1, 1, -1, 2, 0, 1, 1, -1, 1), -2, 2}} {
		for _, from := range grid(c.from, c.to) {
			for _, to := range grid(c.from, c.to) {
				if from != to {
					came[checkClip(t, c.b, from, to)]++
				}
			}
		}
	}
	if came[true] < 10000 || came[false] < 10000 {
		t.Errorf("answers: %v", came)
	}
}

// waysOf are ways between points inside, on the border and outside of a body, and between others.
func waysOf(b api.Body, random *rand.Rand) [][2]api.Vec {
	var list [][2]api.Vec
	points := pointsFor(b)
	for range 700 {
		list = append(list, [2]api.Vec{points[random.IntN(len(points))], points[random.IntN(len(points))]})
	}
	for i := range 200 {
		size := []int{5, 30, most}[i%3]
		any := func() int { return random.IntN(2*size+1) - size }
		list = append(list, [2]api.Vec{vec(any(), any(), any()), vec(any(), any(), any())})
	}
	return slices.DeleteFunc(list, func(way [2]api.Vec) bool { return way[0] == way[1] })
}

// P8.1, H4.
func TestClip(t *testing.T) {
	came := map[bool]int{}
	random := rand.New(rand.NewPCG(8, 3))
	for _, b := range bodies() {
		for _, way := range waysOf(b, random) {
			came[checkClip(t, b, way[0], way[1])]++
		}
	}
	if came[true] < 10000 || came[false] < 10000 {
		t.Errorf("answers: %v", came)
	}
}

// P8.1, H4: bodies and points that are not valid, and ways between equal points.
func TestClipErrors(t *testing.T) {
	check := func(b api.Body, from, to api.Vec) {
		if low, high, is, e := shape.Clip(b, from, to); low != (api.Rat{}) || high != (api.Rat{}) || is || e != api.ErrArg {
			t.Errorf("Clip(%v, %v, %v): %v, %v, %v, %v", brief(b), from, to, low, high, is, e)
		}
	}
	ends := []api.Vec{{}, vec(5, 5, 5), vec(2, 3, 1), vec(-10, 1, 1), vec(30, 1, 1), vec(most, most, most), vec(-most, 0, most)}
	for _, b := range notBodies() {
		for i, from := range ends {
			check(b, from, ends[(i+1)%len(ends)])
			check(b, from, from)
		}
		check(b, vec(most+1, 0, 0), vec(0, 0, 0))
	}
	for _, b := range bodies() {
		for _, bad := range notPoints() {
			for _, v := range append(ends, bad, vec(-bad.X, -bad.Y, -bad.Z)) {
				check(b, bad, v)
				check(b, v, bad)
			}
		}
		for _, v := range pointsFor(b) {
			check(b, v, v)
		}
	}
}

// P8.1, H5: the examples, bodies that touch in a corner, an edge or a face, that share a part, one inside the other,
// one above the other, and a body with itself.
func TestApartCases(t *testing.T) {
	b := example()
	three := body(0, 10, 0, 0, 10, 0, 0, 10)
	eight := body(0, 10, 0, 3, 3, 0, 7, 0, 10, 3, 10, 7, 7, 10, 3, 10, 0, 7)
	thinBody := api.Body{Base: thin(), Low: 0, High: 10}
	for _, c := range []struct {
		a, b api.Body
		want bool
	}{
		{b, moved(b, vec(10, 0, 0)), true}, {b, moved(b, vec(9, 0, 0)), false}, {b, moved(b, vec(11, 0, 0)), true}, {b, moved(b, vec(0, 10, 0)), true}, {b, moved(b, vec(0, 9, 0)), false}, {b, moved(b, vec(0, 0, 10)), true}, {b, moved(b, vec(0, 0, 9)), false}, {b, moved(b, vec(0, 0, -10)), true}, {b, moved(b, vec(0, 0, -9)), false}, {b, moved(b, vec(0, 0, 11)), true}, {b, moved(b, vec(500, 0, 0)), true}, {b, moved(b, vec(0, 0, 500)), true},
		{b, moved(b, vec(10, 10, 0)), true}, {b, moved(b, vec(10, 10, 10)), true}, {b, moved(b, vec(10, 5, 0)), true}, {b, moved(b, vec(10, 0, 10)), true}, {b, moved(b, vec(9, 9, 9)), false}, {b, moved(b, vec(9, 10, 9)), true}, {b, moved(b, vec(-9, -9, -9)), false}, {b, moved(b, vec(-10, -10, -10)), true},
		{b, b, false}, {three, three, false}, {eight, eight, false}, {thinBody, thinBody, false}, {box(vec(0, 0, 0), vec(1, 1, 1)), box(vec(0, 0, 0), vec(1, 1, 1)), false},
		{b, box(vec(2, 2, 2), vec(8, 8, 8)), false}, {b, box(vec(0, 0, 0), vec(1, 1, 1)), false}, {b, box(vec(9, 9, 9), vec(10, 10, 10)), false}, {b, box(vec(2, 2, 10), vec(8, 8, 18)), true}, {b, box(vec(2, 2, -5), vec(8, 8, 0)), true}, {b, box(vec(2, 2, -5), vec(8, 8, 1)), false}, {b, box(vec(-5, -5, -5), vec(15, 15, 15)), false}, {b, box(vec(-5, -5, 10), vec(15, 15, 15)), true}, {b, box(vec(-5, 4, 4), vec(15, 6, 6)), false}, {b, box(vec(4, 4, -5), vec(6, 6, 15)), false}, {b, box(vec(-5, 4, -5), vec(15, 6, 15)), false},
		{b, three, false}, {three, body(0, 10, 0, 10, 10, 0, 10, 10), true}, {three, body(0, 10, 0, 9, 9, 0, 9, 9), false}, {three, body(0, 10, 1, 10, 10, 1, 10, 10), true}, {three, moved(three, vec(5, 5, 0)), true}, {three, moved(three, vec(5, 4, 0)), false}, {three, box(vec(5, 5, 0), vec(10, 10, 10)), true}, {three, box(vec(4, 5, 0), vec(10, 10, 10)), false}, {three, box(vec(5, 5, 2), vec(6, 6, 8)), true}, {three, box(vec(-9, 0, 0), vec(0, 10, 10)), true}, {three, body(0, 10, -5, 5, 0, 0, 0, 9), true}, {three, body(0, 10, -5, 5, 1, 5, 0, 9), false},
		{eight, box(vec(-9, -9, 0), vec(1, 2, 10)), true}, {eight, box(vec(-9, -9, 0), vec(2, 1, 10)), true}, {eight, box(vec(-9, -9, 0), vec(2, 2, 10)), false}, {eight, box(vec(9, 8, 0), vec(19, 19, 10)), true}, {eight, box(vec(8, 8, 0), vec(19, 19, 10)), false}, {eight, moved(eight, vec(7, 7, 0)), true}, {eight, moved(eight, vec(6, 7, 0)), false}, {eight, moved(eight, vec(10, 4, 0)), true}, {eight, moved(eight, vec(-7, 7, 0)), true}, {eight, moved(eight, vec(-7, 6, 3)), false},
		{thinBody, box(vec(-1999, -1999, 0), vec(0, 0, 10)), false}, {thinBody, box(vec(-1999, -1998, 0), vec(0, 0, 10)), false}, {thinBody, box(vec(0, 0, 0), vec(9, 9, 10)), false}, {thinBody, body(0, 10, 0, 0, 9, 9, 0, 9), true}, {thinBody, body(0, 10, 0, -1, 9, -1, 9, 8), true}, {thinBody, box(vec(0, -1, 0), vec(9, 9, 10)), false}, {thinBody, box(vec(-9, -9, 0), vec(1, 0, 10)), false}, {thinBody, body(0, 10, -2000, -1999, -1999, -1999, -1999, -1998), true}, {thinBody, body(0, 10, -1999, -1999, 2000, 1999, 2000, 2000), true}, {thinBody, body(0, 10, -2000, -2000, 1999, 1998, 2000, 1999), true},
		{box(vec(-most, -most, -most), vec(most, most, most)), box(vec(most-1, most-1, most-1), vec(most, most, most)), false}, {box(vec(-most, -most, -most), vec(most, most, 0)), box(vec(-most, -most, 0), vec(most, most, most)), true}, {box(vec(-most, -most, -most), vec(0, most, most)), box(vec(0, -most, -most), vec(most, most, most)), true}, {box(vec(-most, -most, -most), vec(0, most, most)), box(vec(-1, -most, -most), vec(most, most, most)), false},
	} {
		if got := apart(t, c.a, c.b); got != c.want || apart(t, c.b, c.a) != c.want {
			t.Errorf("Apart(%v, %v): %v", c.a, c.b, got)
		}
		checkApart(t, c.a, c.b)
	}
}

// P8.1, H5: all pairs of small bodies, wherever one of them lies.
func TestApartSmall(t *testing.T) {
	came := map[bool]int{}
	list := smallBases(3)
	for i, p := range list {
		a := api.Body{Base: p, Low: 0, High: 2}
		for j, q := range list {
			for x := -2; x <= 2; x++ {
				for y := -2; y <= 2; y++ {
					if (i+j+x+y)%3 == 0 {
						b := moved(api.Body{Base: q, Low: 0, High: 2}, vec(x, y, 0))
						came[checkApart(t, a, b)]++
					}
				}
			}
			for z := -3; z <= 3; z++ {
				came[checkApart(t, a, api.Body{Base: q, Low: z, High: z + 1 + (i+j)%3})]++
			}
		}
	}
	if came[true] < 10000 || came[false] < 10000 {
		t.Errorf("answers: %v", came)
	}
}

// P8.1, H5.
func TestApart(t *testing.T) {
	came := map[bool]int{}
	random := rand.New(rand.NewPCG(8, 4))
	for _, a := range bodies() {
		for _, b := range bodies() {
			came[checkApart(t, a, b)]++
		}
	}
	for i := range 6000 {
		size := []int{3, 6, 20, 300, most}[i%5]
		a, b := randomBody(random, size), randomBody(random, max(1, size/(1+i%3)))
		by := vec(random.IntN(2*size+1)-size, random.IntN(2*size+1)-size, 0)
		if m := moved(b, by); isBody(m) {
			b = m
		}
		a.Low, a.High = min(a.Low, b.Low), max(a.High, b.High)
		came[checkApart(t, a, b)]++
	}
	if came[true] < 1000 || came[false] < 1000 {
		t.Errorf("answers: %v", came)
	}
}

// P8.1, H5: a body that is not valid, on either side, also where one would be apart by its height alone.
func TestApartErrors(t *testing.T) {
	check := func(a, b api.Body) {
		if is, e := shape.Apart(a, b); is || e != api.ErrArg {
			t.Errorf("Apart(%v, %v): %v, %v", brief(a), brief(b), is, e)
		}
	}
	others := []api.Body{example(), box(vec(100, 100, 100), vec(110, 110, 110)), box(vec(-most, -most, -most), vec(most, most, most)), body(-2, 3, 0, 0, 4, 0, 0, 4)}
	for _, bad := range notBodies() {
		for _, b := range append(others, bad, api.Body{}) {
			check(bad, b)
			check(b, bad)
		}
	}
}

// P8.1: no function changes its arguments, nor what lies behind them in memory, nor uses it, and a body that was moved
// is new memory.
func TestArgumentsStay(t *testing.T) {
	for _, b := range bodies() {
		behind := slices.Concat(b.Base, []api.Point{{X: 1, Y: 2}, {X: most + 1}, {}})
		room := slices.Clone(behind)
		wide := api.Body{Base: room[:len(b.Base)], Low: b.Low, High: b.High}
		from, to := pointsFor(b)[0], vec(most, 1, 2)
		first := move(t, wide, api.Vec{})
		if !shape.Valid(wide) || inside(t, wide, from) != isIn(b, from) || apart(t, wide, wide) || apart(t, wide, b) {
			t.Errorf("%v: other answers with memory behind it", b)
		}
		checkClip(t, wide, from, to)
		for _, by := range []api.Vec{vec(1, 1, 1), vec(-1, -1, -1), vec(most, most, most), vec(most+1, 0, 0)} {
			shape.Move(wide, by)
		}
		if !slices.Equal(room, behind) {
			t.Fatalf("%v was changed", b)
		}
		clear(room)
		if !equalBodies(first, b) {
			t.Errorf("%v: what was moved changed with it", b)
		}
		second := move(t, first, api.Vec{})
		clear(first.Base[:cap(first.Base)])
		if !equalBodies(second, b) {
			t.Errorf("%v: what was moved twice changed", b)
		}
	}
}

// P8.1: nothing is kept of a body whose corners the caller changes between two calls.
func TestNothingIsKept(t *testing.T) {
	room := make([]api.Point, mostCorners)
	check := func(b api.Body, valid bool) {
		copy(room, b.Base)
		same := api.Body{Base: room[:len(b.Base)], Low: b.Low, High: b.High}
		if shape.Valid(same) != valid {
			t.Errorf("Valid(%v): %v", b, !valid)
		}
		if !valid {
			return
		}
		for _, v := range grid(1, 3) {
			if inside(t, same, v) != isIn(b, v) {
				t.Errorf("Inside(%v, %v): %v", b, v, !isIn(b, v))
			}
		}
		checkClip(t, same, vec(-7, 2, 1), vec(9, 3, 2))
		checkApart(t, same, example())
		checkMove(t, same, vec(1, 2, 3))
	}
	for _, b := range bodies() {
		check(b, true)
		check(api.Body{Base: append(b.Base[1:len(b.Base):len(b.Base)], b.Base[0]), Low: b.Low, High: b.High}, false)
		check(b, true)
	}
}
