package scene_test

import (
	"math/rand/v2"
	"slices"
	"testing"

	"barcarole/api"
)

// P11.2: shares are from 0 to 1 and whole hundredths; that of the piece lies between the least and the greatest one.
func TestBounds(t *testing.T) {
	inner := 0
	for _, v := range looks() {
		a := ask(t, v)
		if len(a.shares) != len(v.play.Scenes) {
			t.Errorf("%d shares; %s", len(a.shares), v.text())
		}
		for _, r := range a.shares {
			if !isNumber(r) || r.N < 0 || r.N > r.D || r.N*100%r.D != 0 {
				t.Errorf("share %v; %s", r, v.text())
			}
		}
		least, greatest := slices.MinFunc(a.shares, compare), slices.MaxFunc(a.shares, compare)
		if !isNumber(a.total) || compare(a.total, least) < 0 || compare(a.total, greatest) > 0 {
			t.Errorf("total %v of %v", a.total, a.shares)
		}
		if a.worst != least || a.shares[a.scene] != least || slices.Contains(a.shares[:a.scene], least) {
			t.Errorf("worst %v, %d of %v", a.worst, a.scene, a.shares)
		}
		if compare(a.total, least) > 0 && compare(a.total, greatest) < 0 {
			inner++
		}
	}
	if inner < 100 {
		t.Errorf("only %d totals strictly between", inner)
	}
}

// P11.3: the further bodies come one after the other, and more of them; no share becomes greater.
func TestFurtherBodies(t *testing.T) {
	less, same := 0, 0
	random := rand.New(rand.NewPCG(11, 2))
	for _, v := range looks() {
		for range min(6, mostBodies-bodiesOf(v)) {
			s := v.play.Scenes[random.IntN(len(v.play.Scenes))]
			target := s.Targets[random.IntN(len(s.Targets))].At
			v.others = append(slices.Clone(v.others), randomBody(random, v.eye, target, 1+random.IntN(most)))
		}
		all := v.others
		v.others = nil
		before := ask(t, v)
		for n := range all {
			v.others = all[:n+1]
			after := ask(t, v)
			for i, r := range after.shares {
				if compare(r, before.shares[i]) > 0 {
					t.Errorf("%s %v, with one body less %v", v.text(), after.shares, before.shares)
				}
			}
			if compare(after.total, before.total) > 0 || compare(after.worst, before.worst) > 0 {
				t.Errorf("%s total %v, worst %v; with one body less %v, %v", v.text(), after.total, after.worst, before.total, before.worst)
			}
			if slices.Equal(after.shares, before.shares) {
				same++
			} else {
				less++
			}
			before = after
		}
	}
	if less < 300 || same < 1000 {
		t.Errorf("shares became less %d times, and not %d times", less, same)
	}
}

// bodiesOf is how many bodies there are for the scene that has the most of them.
func bodiesOf(v look) int {
	count := 0
	for _, s := range v.play.Scenes {
		count = max(count, len(s.Bodies))
	}
	return count + len(v.play.Set) + len(v.others)
}

// P11.3: the order of the further bodies plays no part, nor whether they belong to Set.
func TestOrderOfBodies(t *testing.T) {
	came := 0
	random := rand.New(rand.NewPCG(11, 3))
	for _, v := range looks() {
		want := ask(t, v)
		mixed := cloneLook(v)
		for range 3 {
			random.Shuffle(len(mixed.others), func(i, j int) { mixed.others[i], mixed.others[j] = mixed.others[j], mixed.others[i] })
			if got := ask(t, mixed); !equalAnswers(got, want) {
				t.Errorf("%s %v; in another order %v", v.text(), want, got)
			}
		}
		if len(v.others) > 1 && want.total.N > 0 && want.total.N < want.total.D {
			came++
		}
		mixed.play.Set, mixed.others = mixed.others, mixed.play.Set
		if got := ask(t, mixed); !equalAnswers(got, want) {
			t.Errorf("%s %v; with Set as the further ones %v", v.text(), want, got)
		}
	}
	if came < 100 {
		t.Errorf("only %d looks past several bodies", came)
	}
}

// P11.4: a scene that is divided into two, at each place, changes the share of the piece not at all.
func TestDivided(t *testing.T) {
	came, between := 0, 0
	random := rand.New(rand.NewPCG(11, 4))
	for _, v := range looks() {
		want := ask(t, v)
		for i, s := range v.play.Scenes {
			if s.Minutes < 2 || len(v.play.Scenes) == mostScenes {
				continue
			}
			for _, minutes := range []int{1, s.Minutes - 1, 1 + random.IntN(s.Minutes-1)} {
				first, second := s, s
				first.Minutes, second.Minutes = minutes, s.Minutes-minutes
				divided := cloneLook(v)
				divided.play.Scenes = slices.Concat(v.play.Scenes[:i], []api.Scene{first, second}, v.play.Scenes[i+1:])
				got := ask(t, divided)
				if got.total != want.total || got.worst != want.worst || len(got.shares) != len(want.shares)+1 {
					t.Errorf("%s %v; with scene %d divided %v", v.text(), want, i, got)
				}
				came++
				if want.total != want.shares[i] {
					between++
				}
			}
		}
	}
	if came < 1000 || between < 500 {
		t.Errorf("only %d scenes divided, %d of them with another share than the piece", came, between)
	}
}

// P11.4: down to scenes of one minute each.
func TestDividedIntoMinutes(t *testing.T) {
	whole := look{play: api.Play{Scenes: []api.Scene{part(13, 40), part(7, 99)}}}
	single := look{play: api.Play{Scenes: slices.Concat(slices.Repeat([]api.Scene{part(1, 40)}, 13), slices.Repeat([]api.Scene{part(1, 99)}, 7))}}
	if r, s := ask(t, whole).total, ask(t, single).total; r != s || r != rat(1213, 2000) {
		t.Errorf("Total: %v; divided %v", r, s)
	}
}

// movedBodies are bodies with a vector added to all of their points, and whether these are still valid.
func movedBodies(list []api.Body, by api.Vec) ([]api.Body, bool) {
	list, is := cloneBodies(list), true
	for i := range list {
		b := &list[i]
		b.Low, b.High = b.Low+by.Z, b.High+by.Z
		is = is && isVector(vec(0, b.Low, b.High))
		for j, p := range b.Base {
			b.Base[j] = api.Point{X: p.X + by.X, Y: p.Y + by.Y}
			is = is && isVector(vec(b.Base[j].X, b.Base[j].Y, 0))
		}
	}
	return list, is
}

// movedLook is a look with a vector added to all of its points, and whether these are still valid.
func movedLook(v look, by api.Vec) (look, bool) {
	m := look{play: clonePlay(v.play), eye: plus(v.eye, by)}
	var is, valid bool
	m.others, is = movedBodies(v.others, by)
	m.play.Set, valid = movedBodies(v.play.Set, by)
	is = is && valid && isVector(m.eye)
	for i, s := range v.play.Scenes {
		m.play.Scenes[i].Bodies, valid = movedBodies(s.Bodies, by)
		is = is && valid
		for j, target := range s.Targets {
			m.play.Scenes[i].Targets[j].At = plus(target.At, by)
			is = is && isVector(plus(target.At, by))
		}
	}
	return m, is
}

// P11.5.
func TestMoves(t *testing.T) {
	held := 0
	random := rand.New(rand.NewPCG(11, 5))
	for _, v := range looks() {
		want := ask(t, v)
		for _, size := range []int{1, 4, 50, 700, 1900} {
			by := randomPoint(random, size)
			m, is := movedLook(v, by)
			if !is {
				continue
			}
			held++
			if got := ask(t, m); !equalAnswers(got, want) {
				t.Errorf("%s %v; moved by %v: %v", v.text(), want, by, got)
			}
			if !keeps(t, m, want.total) {
				t.Errorf("%s Keeps %v: false; moved by %v", v.text(), want.total, by)
			}
		}
	}
	if held < 1000 {
		t.Errorf("only %d moves", held)
	}
}

// P11.5: as far as possible; one step further the points are not valid.
func TestMovesToLimits(t *testing.T) {
	v := look{api.Play{Set: bodies(beside()), Scenes: []api.Scene{part(10, 40), part(20, 70)}}, vec(0, 0, 0), bodies(side())}
	v.play.Scenes[1].Bodies = nil
	want := ask(t, v)
	if want.total != rat(1, 5) {
		t.Fatalf("total %v", want.total)
	}
	for _, x := range []int{-most, most - 100} { // from the eye to the targets
		for _, y := range []int{30 - most, most - 40} { // from beside to a target
			for _, z := range []int{5 - most, most - 5} {
				m, is := movedLook(v, vec(x, y, z))
				if got := ask(t, m); !is || !equalAnswers(got, want) {
					t.Errorf("%s %v; moved %v", v.text(), want, got)
				}
				for _, step := range []api.Vec{vec(x/1000, 0, 0), vec(0, y/1000, 0), vec(0, 0, z/1000)} {
					m, is := movedLook(v, plus(vec(x, y, z), step))
					if is {
						t.Fatalf("%s moved by %v and %v", v.text(), vec(x, y, z), step)
					}
					checkError(t, m, api.ErrArg)
				}
			}
		}
	}
}

// P11.6: an eye that is strictly inside a body of Set, or a further one, sees nothing; inside one of a scene it sees
// nothing of this scene.
func TestInside(t *testing.T) {
	random := rand.New(rand.NewPCG(11, 6))
	came := 0
	for _, v := range looks() {
		size := 1 + random.IntN(9)
		around := around(v.eye, size)
		if bodiesOf(v) == mostBodies || !areBodies(bodies(around)) {
			continue
		}
		before := ask(t, v)
		if before.total.N > 0 {
			came++
		}
		further, set := cloneLook(v), cloneLook(v)
		further.others = append(further.others, around)
		set.play.Set = append(set.play.Set, around)
		checkSeen(t, further, make([]int, len(v.play.Scenes))...)
		checkSeen(t, set, make([]int, len(v.play.Scenes))...)
		one := cloneLook(v)
		i := random.IntN(len(v.play.Scenes))
		one.play.Scenes[i].Bodies = append(one.play.Scenes[i].Bodies, around)
		seen := seenOf(v)
		seen[i] = 0
		checkSeen(t, one, seen...)
	}
	if came < 200 {
		t.Errorf("only %d looks that see something", came)
	}
}

// P11.6: all eyes in and around a body that stands far away from the targets, and from the ways to them.
func TestInsideAll(t *testing.T) {
	b := body(-2, 2, -53, 0, -50, -3, -47, 0, -50, 3)
	for x := -55; x <= -45; x++ {
		for y := -5; y <= 5; y++ {
			for z := -3; z <= 3; z++ {
				eye := vec(x, y, z)
				far := max(x+50, -x-50) + max(y, -y) // the body has the points that are less than 3 away
				isIn := far < 3 && -2 < z && z < 2
				set := look{api.Play{Set: bodies(b), Scenes: example().Scenes}, eye, nil}
				further := look{example(), eye, bodies(beside(), b)}
				if isIn {
					checkSeen(t, set, 0)
					checkSeen(t, further, 0)
				}
				checkLook(t, set)
				checkLook(t, further)
			}
		}
	}
}

// P11.7: a piece keeps its own share, what is less, and nothing that is greater; and the least share of its scenes.
func TestKept(t *testing.T) {
	random := rand.New(rand.NewPCG(11, 7))
	for i, v := range looks() {
		a := ask(t, v)
		if !keeps(t, v, a.total) || !keeps(t, v, a.worst) {
			t.Errorf("%s Keeps %v, or %v: false", v.text(), a.total, a.worst)
		}
		list := []api.Rat{rat(0, 1), rat(1, 1), slices.MaxFunc(a.shares, compare), reduced(a.total.N*700+1, a.total.D*700), reduced(a.total.N*700-1, a.total.D*700)}
		if i%25 == 0 {
			below, above := near(a.total)
			list = append(list, below, above)
		}
		for range 10 {
			d := 1 + random.IntN(mostRat)
			list = append(list, reduced(random.IntN(d+1), d))
		}
		for _, r := range list {
			if is := keeps(t, v, r); is != (compare(a.total, r) >= 0) {
				t.Errorf("%s Keeps %v: %v; total %v", v.text(), r, is, a.total)
			}
		}
	}
}
