package sun_test

import (
	"math/rand/v2"
	"slices"
	"testing"

	"barcarole/api"
)

// P10.2: the direction is the same a day later.
func TestDayLater(t *testing.T) {
	random := rand.New(rand.NewPCG(10, 4))
	for _, table := range tables() {
		for minute := range day {
			dir, up := direction(t, table, minute)
			for _, days := range []int{1, 2, 1 + random.IntN(415), 415, 416} {
				later := minute + days*day
				if later > mostMinute {
					continue
				}
				if got, is := direction(t, table, later); got != dir || is != up {
					t.Errorf("At(%v, %d): %v, %v; %d days later %v, %v", table, minute, dir, up, days, got, is)
				}
			}
		}
	}
}

// fromAt is the element of a table whose From is a minute of the day, and whether there is one.
func fromAt(table []api.Sun, minute int) (api.Sun, bool) {
	i := slices.IndexFunc(table, func(s api.Sun) bool { return s.From == minute })
	if i < 0 {
		return api.Sun{}, false
	}
	return table[i], true
}

// P10.2: from one minute to the next one the direction changes only to that of an element which begins then, and it
// does change to it.
func TestChanges(t *testing.T) {
	changes := 0
	for _, table := range tables() {
		for _, first := range []int{0, 7 * day, mostMinute - day - 1} {
			before, _ := direction(t, table, first)
			for minute := first + 1; minute <= first+day+1; minute++ {
				dir, _ := direction(t, table, minute)
				s, is := fromAt(table, minute%day)
				switch {
				case is && dir != s.Dir:
					t.Errorf("At(%v, %d): %v; want %v", table, minute, dir, s.Dir)
				case !is && dir != before:
					t.Errorf("At(%v, %d): %v; a minute earlier %v", table, minute, dir, before)
				case dir != before:
					changes++
				}
				before = dir
			}
		}
	}
	if changes < 1000 {
		t.Errorf("only %d changes", changes)
	}
}

// P10.3: without bodies an eye is in the shade exactly if the sun is not up.
func TestNoBodies(t *testing.T) {
	came := map[bool]int{}
	for _, v := range validLooks() {
		_, up := direction(t, v.table, v.minute)
		came[up]++
		for _, bodies := range [][]api.Body{nil, {}} {
			v.bodies = bodies
			if is := shaded(t, v); is == up {
				t.Errorf("Shaded of %s: %v; up: %v", v.text(), is, up)
			}
		}
	}
	if came[true] < 500 || came[false] < 500 {
		t.Errorf("up: %v", came)
	}
}

// P10.3, P10.4: the bodies of looks come one after the other; what is in the shade stays there, and there is no new
// glare.
func TestMoreBodies(t *testing.T) {
	darkened, ended := 0, 0
	for _, v := range validLooks() {
		all := v.bodies
		v.bodies = nil
		dark, dazzled := shaded(t, v), glare(t, v)
		for n := range all {
			v.bodies = all[:n+1]
			is, still := shaded(t, v), glare(t, v)
			if dark && !is || !dazzled && still {
				t.Errorf("%s: shaded %v, glare %v; with one body less %v, %v", v.text(), is, still, dark, dazzled)
			}
			if is && !dark {
				darkened++
			}
			if dazzled && !still {
				ended++
			}
			dark, dazzled = is, still
		}
	}
	if darkened < 200 || ended < 50 {
		t.Errorf("shade came %d times, glare ended %d times", darkened, ended)
	}
}

// P10.3: the order of the bodies plays no part.
func TestOrderOfBodies(t *testing.T) {
	came := map[bool]int{}
	random := rand.New(rand.NewPCG(10, 5))
	for _, v := range validLooks() {
		if len(v.bodies) < 2 || !isUp(v) {
			continue
		}
		dark, dazzled := shaded(t, v), glare(t, v)
		came[dark]++
		mixed := v
		mixed.bodies = slices.Clone(v.bodies)
		for range 5 {
			random.Shuffle(len(mixed.bodies), func(i, j int) { mixed.bodies[i], mixed.bodies[j] = mixed.bodies[j], mixed.bodies[i] })
			if is, still := shaded(t, mixed), glare(t, mixed); is != dark || still != dazzled {
				t.Errorf("%s: shaded %v, glare %v; in another order %v, %v", v.text(), dark, dazzled, is, still)
			}
		}
	}
	if came[true] < 100 || came[false] < 100 {
		t.Errorf("in the shade: %v", came)
	}
}

// P10.4: there is no glare in the shade.
func TestNoGlareInShade(t *testing.T) {
	came := 0
	for _, v := range validLooks() {
		dir, _ := direction(t, v.table, v.minute)
		for _, target := range []api.Vec{v.target, plus(v.eye, dir), plus(v.eye, step(dir)), minus(v.eye, step(dir))} {
			v.target, v.share = target, rat(0, 1)
			if isVector(target) && shaded(t, v) {
				came++
				if glare(t, v) {
					t.Errorf("glare in the shade: %s", v.text())
				}
			}
		}
	}
	if came < 1000 {
		t.Errorf("only %d times in the shade", came)
	}
}

// P10.4: with a greater share of an angle there is no new glare.
func TestGreaterShares(t *testing.T) {
	ended := 0
	random := rand.New(rand.NewPCG(10, 6))
	for _, v := range validLooks() {
		list := []api.Rat{rat(0, 1), rat(1, 10000), rat(1, 2), rat(9999, 10000), rat(1, 1), v.share}
		for range 10 {
			list = append(list, reduced(random.IntN(mostOfShare+1), mostOfShare))
		}
		slices.SortFunc(list, func(r, s api.Rat) int { return r.N*s.D - s.N*r.D })
		before := true
		for _, r := range list {
			v.share = r
			is := glare(t, v)
			if is && !before {
				t.Errorf("Glare of %s: true; with a lesser share false", v.text())
			}
			if before && !is && r.N > 0 {
				ended++
			}
			before = is
		}
	}
	if ended < 200 {
		t.Errorf("glare ended only %d times", ended)
	}
}

// isAlong reports whether two vectors have one direction: each is what is left of the other one if it is made shorter.
func isAlong(v, w api.Vec) bool {
	return v != vec(0, 0, 0) && w != vec(0, 0, 0) && step(v) == step(w)
}

// P10.4: for the share 1 there is glare exactly out of the shade and if the target lies in the direction of the sun.
func TestShareOne(t *testing.T) {
	came := map[bool]int{}
	for _, v := range validLooks() {
		v.share = rat(1, 1)
		dir, _ := direction(t, v.table, v.minute)
		aside := plus(dir, vec(0, 0, 1))
		for _, target := range []api.Vec{v.target, v.eye, plus(v.eye, dir), plus(v.eye, step(dir)), plus(v.eye, times(2, step(dir))), plus(v.eye, times(7, step(dir))), minus(v.eye, step(dir)), minus(v.eye, dir), plus(v.eye, aside), minus(plus(v.eye, dir), vec(1, 0, 0))} {
			v.target = target
			if !isVector(target) || !isVector(minus(target, v.eye)) {
				continue
			}
			want := !shaded(t, v) && isAlong(dir, minus(target, v.eye))
			came[want]++
			if is := glare(t, v); is != want {
				t.Errorf("Glare of %s: %v", v.text(), is)
			}
		}
	}
	if came[true] < 1000 || came[false] < 1000 {
		t.Errorf("glare: %v", came)
	}
}

// movedLook is a look with a vector added to all of its points, and whether all are still valid, with the end of the way
// to the sun.
func movedLook(v look, by api.Vec) (look, bool) {
	m := v
	m.eye, m.target, m.bodies = plus(v.eye, by), plus(v.target, by), cloneBodies(v.bodies)
	is := isVector(m.eye) && isVector(m.target) && (!isUp(v) || isVector(plus(m.eye, directionOf(v.table, v.minute))))
	for i := range m.bodies {
		m.bodies[i].Low += by.Z
		m.bodies[i].High += by.Z
		is = is && isVector(vec(0, m.bodies[i].Low, m.bodies[i].High))
		for j := range m.bodies[i].Base {
			p := &m.bodies[i].Base[j]
			p.X, p.Y = p.X+by.X, p.Y+by.Y
			is = is && isVector(vec(p.X, p.Y, 0))
		}
	}
	return m, is
}

// P10.5.
func TestMoves(t *testing.T) {
	held, dark, dazzled := 0, map[bool]int{}, map[bool]int{}
	random := rand.New(rand.NewPCG(10, 7))
	for _, v := range validLooks() {
		shade, dazzle := shaded(t, v), glare(t, v)
		for _, size := range []int{1, 5, 100, 700, 1300, most, most} {
			by := randomPoint(random, size)
			m, is := movedLook(v, by)
			if !is {
				continue
			}
			held++
			if is, still := shaded(t, m), glare(t, m); is != shade || still != dazzle {
				t.Errorf("%s: shaded %v, glare %v; moved by %v: %v, %v", v.text(), shade, dazzle, by, is, still)
			}
			if isUp(v) {
				dark[shade]++
				dazzled[dazzle]++
			}
		}
	}
	if held < 3000 || dark[true] < 500 || dark[false] < 500 || dazzled[true] < 300 {
		t.Errorf("%d moves; in the shade: %v; glare: %v", held, dark, dazzled)
	}
}

// P10.5: as far as possible.
func TestMovesToLimits(t *testing.T) {
	for _, bodies := range [][]api.Body{nil, {shade()}, {around(vec(20, -50, 25), 9)}} {
		v := look{example(), 720, vec(0, 0, 0), vec(0, -20, 10), rat(1, 1), bodies}
		for _, x := range []int{29 - most, most - 29} {
			for _, y := range []int{100 - most, most} {
				for _, z := range []int{-most, most - 100} {
					m, is := movedLook(v, vec(x, y, z))
					if dark, dazzled := shaded(t, m), glare(t, m); !is || dark != shaded(t, v) || dazzled != glare(t, v) {
						t.Errorf("%s: shaded %v, glare %v", m.text(), dark, dazzled)
					}
				}
			}
		}
	}
}

// checkRepeated finds whether a table has the same directions with a further element that repeats the one at its minute.
func checkRepeated(t *testing.T, table []api.Sun, minute int, minutes []int) {
	t.Helper()
	dir, _ := direction(t, table, minute)
	i := slices.IndexFunc(table, func(s api.Sun) bool { return s.From > minute })
	if i < 0 {
		i = len(table)
	}
	longer := slices.Insert(slices.Clone(table), i, api.Sun{From: minute, Dir: dir})
	for _, m := range minutes {
		before, up := direction(t, table, m)
		if after, is := direction(t, longer, m); after != before || is != up {
			t.Errorf("At(%v, %d): %v; with %d repeated %v", table, m, before, minute, after)
		}
	}
}

// P10.6: at all minutes of the day at which no element begins.
func TestRepeated(t *testing.T) {
	random := rand.New(rand.NewPCG(10, 8))
	for _, table := range tables() {
		if len(table) == mostSuns {
			continue
		}
		minutes := []int{0, 1, 1439, 1440, 1441, 2879, 2880, mostMinute}
		for _, s := range table {
			minutes = append(minutes, max(s.From-1, 0), s.From, s.From+1, s.From+day)
		}
		for range 30 {
			minutes = append(minutes, random.IntN(mostMinute+1))
		}
		for minute := range day {
			if _, is := fromAt(table, minute); !is {
				checkRepeated(t, table, minute, append(minutes, max(minute-1, 0), minute, minute+1, minute+day))
			}
		}
	}
}
