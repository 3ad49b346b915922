package scene_test

import (
	"math"
	"slices"
	"testing"

	"barcarole/api"
	"barcarole/scene"
)

// P11.1: the document's examples.
func TestExamples(t *testing.T) {
	v := look{play: example()}
	if r := ask(t, v).total; r != rat(1, 1) {
		t.Errorf("Total without bodies: %v", r)
	}
	v.others = bodies(box(vec(50, -5, -5), vec(60, 5, 5)))
	a := ask(t, v)
	if a.total != rat(2, 5) || a.worst != rat(2, 5) || a.scene != 0 {
		t.Errorf("Total, Worst: %v, %v, %d", a.total, a.worst, a.scene)
	}
	if keeps(t, v, rat(1, 2)) || !keeps(t, v, rat(2, 5)) {
		t.Error("Keeps")
	}
}

// plays are valid: with as much and as little as there may be of everything.
func plays() []api.Play {
	list := []api.Play{example(), full(), {Set: bodies(front()), Scenes: full().Scenes}, {Scenes: slices.Repeat(example().Scenes, mostScenes)}, {Scenes: slices.Repeat(example().Scenes, mostScenes-1)}}
	for _, minutes := range []int{1, 2, 599, mostMinutes} {
		list = append(list, api.Play{Scenes: []api.Scene{part(minutes, 40)}}, api.Play{Scenes: []api.Scene{part(7, 100), part(minutes, 0), part(9, 1)}})
	}
	for n := 1; n <= mostTargets; n++ {
		list = append(list, api.Play{Scenes: []api.Scene{{Minutes: 1, Targets: targets(n)}, part(3, 4)}})
	}
	for seen := range allWeights + 1 {
		list = append(list, api.Play{Scenes: []api.Scene{part(3, seen)}})
	}
	for _, counts := range [][]int{{60, 0}, {0, 60}, {0, 60, 0, 60, 60}, {59, 1, 0}, {59, 0, 1, 1}, {1, 59, 58, 59}, {30, 30, 30}, {20, 40, 39, 1}, {59, 0, 0}} {
		list = append(list, playOf(counts[0], counts[1:]...))
	}
	same := slices.Repeat([]api.Target{straight(20)}, 5) // one point, five times
	corners := []api.Target{{At: vec(most, -most, most), Weight: 1}, {At: vec(-most, most, -most), Weight: 99}}
	great := box(vec(-most, -most, -most), vec(most, most, most))
	list = append(list, api.Play{Set: bodies(great), Scenes: []api.Scene{{Minutes: 4, Targets: same}, {Minutes: 5, Targets: corners, Bodies: bodies(great, great)}}})
	for _, v := range looks() {
		list = append(list, v.play)
	}
	return list
}

// playOf has numbers of bodies of Set and of each scene; none of them blocks.
func playOf(set int, scenes ...int) api.Play {
	p := api.Play{Set: slices.Repeat(bodies(behind()), set)}
	for i, n := range scenes {
		p.Scenes = append(p.Scenes, api.Scene{Minutes: 1 + i, Bodies: slices.Repeat(bodies(beside()), n), Targets: example().Scenes[0].Targets})
	}
	return p
}

// wrongTargets are those of no scene, by one condition each.
func wrongTargets() [][]api.Target {
	more := slices.Concat(targets(mostTargets)[:mostTargets-1], []api.Target{straight(40), aside(1)})
	list := [][]api.Target{nil, {}, more, slices.Repeat([]api.Target{straight(1)}, 100), make([]api.Target, 60), make([]api.Target, 61), make([]api.Target, 100000)}
	for _, weights := range [][]int{
		{99}, {101}, {1}, {50, 49}, {50, 51}, {33, 33, 33}, {34, 34, 33}, {100, 100}, {1, 1, 1}, {60, 40, 1}, {100, 1},
		{0}, {0, 100}, {100, 0}, {60, 0, 40}, {60, 40, 0}, {-1}, {101, -1}, {-1, 101}, {60, 41, -1}, {-100}, {100, 100, -100}, {50, 100, -50},
		{math.MaxInt, math.MaxInt, 102}, {102, math.MaxInt, math.MaxInt}, {math.MinInt, math.MinInt, 100}, {100, math.MinInt, math.MinInt}, {math.MinInt, math.MaxInt, 101}, {1 << 62, 1 << 62, 1 << 62, 1 << 62, 100}, {1 << 32, 100}, {1<<32 + 100}, {100 - 1<<32}, {math.MaxInt}, {math.MinInt},
	} {
		var wrong []api.Target
		for i, w := range weights {
			wrong = append(wrong, api.Target{At: vec(100, i, 0), Weight: w})
		}
		list = append(list, wrong)
	}
	for _, p := range notPoints() {
		for i := range 3 {
			wrong := []api.Target{straight(50), aside(30), straight(20)}
			wrong[i].At = p
			list = append(list, wrong)
		}
	}
	return list
}

// wrongScenes belong to no valid piece, by one condition each.
func wrongScenes() []api.Scene {
	var list []api.Scene
	for _, minutes := range []int{0, -1, -10, 601, 602, 1200, 1<<16 + 10, 1 << 32, 1<<32 + 10, 10 - 1<<32, math.MaxInt, math.MinInt, math.MinInt + 10} {
		list = append(list, part(minutes, 40))
	}
	for _, wrong := range wrongTargets() {
		list = append(list, api.Scene{Minutes: 10, Targets: wrong, Bodies: bodies(front())})
	}
	for _, wrong := range notBodies() {
		for _, l := range [][]api.Body{{wrong}, {wrong, front()}, {front(), wrong}, {beside(), wrong, behind()}} {
			list = append(list, api.Scene{Minutes: 10, Targets: example().Scenes[0].Targets, Bodies: l})
		}
	}
	all := slices.Repeat(bodies(beside()), mostBodies)
	for _, l := range [][]api.Body{append(all, beside()), append(all, api.Body{}), make([]api.Body, 61), slices.Repeat(all, 1000)} {
		list = append(list, api.Scene{Minutes: 10, Targets: example().Scenes[0].Targets, Bodies: l})
	}
	return list
}

// notPlays are not valid, by one condition each, wherever it is.
func notPlays() []api.Play {
	list := []api.Play{{}, {Scenes: []api.Scene{}}, {Set: bodies(front())}, {Scenes: make([]api.Scene, 1)}, {Scenes: make([]api.Scene, mostScenes)}, {Scenes: make([]api.Scene, 100000)}}
	for _, n := range []int{mostScenes + 1, mostScenes + 2, 2 * mostScenes, 100, 10000} {
		list = append(list, api.Play{Scenes: slices.Repeat(example().Scenes, n)})
	}
	for _, wrong := range wrongScenes() {
		for _, place := range [][2]int{{1, 0}, {2, 1}, {3, 0}, {3, 1}, {mostScenes, 0}, {mostScenes, 10}, {mostScenes, mostScenes - 1}} {
			p := api.Play{Scenes: slices.Repeat(example().Scenes, place[0])}
			p.Scenes[place[1]] = wrong
			list = append(list, p)
		}
	}
	for _, wrong := range notBodies() {
		for _, set := range [][]api.Body{{wrong}, {wrong, front()}, {front(), wrong}, append(slices.Repeat(bodies(front()), mostBodies-1), wrong)} {
			list = append(list, api.Play{Set: set, Scenes: example().Scenes}, api.Play{Set: set, Scenes: slices.Repeat(example().Scenes, mostScenes)})
		}
	}
	for _, counts := range [][]int{{61, 0}, {0, 61}, {60, 1}, {1, 60}, {1, 60, 0}, {1, 0, 60}, {30, 31, 30}, {30, 30, 31}, {30, 0, 31, 0}, {60, 0, 0, 0, 1}, {59, 1, 2, 1}, {61, 0, 0}, {100, 0}, {20, 20, 20, 20, 41}} {
		list = append(list, playOf(counts[0], counts[1:]...))
	}
	return list
}

// P11.1, K1.
func TestValid(t *testing.T) {
	for _, p := range plays() {
		if !isPlay(p) || !scene.Valid(p) {
			t.Errorf("Valid: false; %s", look{play: p}.text())
		}
	}
	for _, p := range notPlays() {
		if isPlay(p) || scene.Valid(p) {
			t.Errorf("Valid: true; %s", look{play: p}.text())
		}
	}
}

// P11.1, K1: all numbers of minutes around the limits, in one of several scenes.
func TestMinutes(t *testing.T) {
	for minutes := -3; minutes <= mostMinutes+3; minutes++ {
		want := 1 <= minutes && minutes <= mostMinutes
		for i := range 3 {
			p := api.Play{Scenes: []api.Scene{part(1, 50), part(2, 30), part(3, 100)}}
			p.Scenes[i].Minutes = minutes
			if scene.Valid(p) != want {
				t.Errorf("Valid with %d minutes of scene %d: %v", minutes, i, !want)
			}
		}
	}
}

// P11.1, K1: all pairs of weights around those that add up to 100.
func TestWeights(t *testing.T) {
	for a := -2; a <= 102; a++ {
		for b := -2; b <= 102; b++ {
			p := api.Play{Scenes: []api.Scene{{Minutes: 10, Targets: []api.Target{straight(a), aside(b)}}}}
			want := a >= 1 && b >= 1 && a+b == 100
			if scene.Valid(p) != want {
				t.Errorf("Valid with the weights %d, %d: %v", a, b, !want)
			}
			if want {
				checkSeen(t, look{p, vec(0, 0, 0), bodies(front())}, b)
				checkSeen(t, look{p, vec(0, 0, 0), bodies(side())}, a)
			}
		}
	}
}

// P11.1, K2 to K5: bodies of Set, of one scene and further ones; what blocks in one of these lists blocks as well as in
// another one, and a body of a scene blocks in this scene alone.
func TestBodies(t *testing.T) {
	lists := [][]api.Body{nil, {}, {beside()}, {front()}, {side()}, {wall()}, {beside(), front()}, {front(), side()}, {side(), behind()}}
	hides := []struct{ straight, aside bool }{{}, {}, {}, {true, false}, {false, true}, {true, true}, {true, false}, {true, true}, {false, true}}
	for i, set := range lists {
		for j, first := range lists {
			for k, second := range lists {
				for l, others := range lists {
					p := api.Play{Set: set, Scenes: []api.Scene{
						{Minutes: 10, Bodies: first, Targets: []api.Target{straight(60), aside(40)}}, {Minutes: 30, Bodies: second, Targets: []api.Target{aside(1), straight(99)}},
					}}
					seen := []int{100, 100}
					if hides[i].straight || hides[j].straight || hides[l].straight {
						seen[0] -= 60
					}
					if hides[i].aside || hides[j].aside || hides[l].aside {
						seen[0] -= 40
					}
					if hides[i].straight || hides[k].straight || hides[l].straight {
						seen[1] -= 99
					}
					if hides[i].aside || hides[k].aside || hides[l].aside {
						seen[1]--
					}
					checkSeen(t, look{p, vec(0, 0, 0), others}, seen...)
				}
			}
		}
	}
}

// P11.1, K2: a body that only touches the way blocks it not, nor one that begins at the target or ends at the eye.
func TestTouching(t *testing.T) {
	for _, c := range []struct {
		body api.Body
		seen int
	}{
		{box(vec(50, 0, -5), vec(60, 5, 5)), 100}, {box(vec(50, -5, 0), vec(60, 5, 5)), 100}, {box(vec(50, -5, -5), vec(60, 0, 5)), 100}, {box(vec(50, -5, -5), vec(60, 5, 0)), 100}, {box(vec(50, -1, -1), vec(60, 1, 1)), 40}, {box(vec(100, -5, -5), vec(110, 5, 5)), 100}, {box(vec(-5, -5, -5), vec(0, 5, 5)), 100}, {box(vec(99, -5, -5), vec(101, 5, 5)), 40}, {box(vec(-1, -5, -5), vec(1, 5, 5)), 0}, {box(vec(0, -5, -5), vec(1, 5, 5)), 0}, {box(vec(-200, -200, -200), vec(200, 200, 200)), 0}, {box(vec(-most, -most, -most), vec(most, most, most)), 0}, {box(vec(-200, -200, 0), vec(200, 200, 200)), 100},
		{body(-5, 5, 50, 20, 60, 20, 60, 24), 100}, {body(-5, 5, 50, 20, 60, 20, 60, 23), 100}, {body(-5, 5, 50, 20, 60, 20, 60, 25), 60}, {body(-5, 5, 40, 17, 50, 20, 40, 20), 100}, {body(-5, 5, 40, 16, 50, 20, 40, 20), 100}, {body(-5, 5, 40, 15, 50, 20, 40, 20), 60}, {box(vec(10, 4, -1), vec(11, 5, 1)), 60}, {box(vec(10, 3, -1), vec(11, 4, 1)), 100},
	} {
		v := look{example(), vec(0, 0, 0), bodies(c.body)}
		checkSeen(t, v, c.seen)
		v.play.Set, v.others = v.others, nil
		checkSeen(t, v, c.seen)
		v.play.Scenes[0].Bodies, v.play.Set = v.play.Set, nil
		checkSeen(t, v, c.seen)
	}
}

// P11.1, K3: each scene counts as often as it has minutes, also where they are as unequal as they can be.
func TestTotal(t *testing.T) {
	long := slices.Repeat([]api.Scene{part(600, 0)}, 19)
	for _, c := range []struct {
		scenes []api.Scene
		want   api.Rat
	}{
		{[]api.Scene{part(1, 40)}, rat(2, 5)}, {[]api.Scene{part(600, 40)}, rat(2, 5)}, {[]api.Scene{part(7, 37)}, rat(37, 100)},
		{[]api.Scene{part(1, 40), part(600, 100)}, rat(3002, 3005)}, {[]api.Scene{part(600, 40), part(1, 100)}, rat(241, 601)}, {[]api.Scene{part(1, 40), part(1, 100)}, rat(7, 10)}, {[]api.Scene{part(600, 40), part(600, 100)}, rat(7, 10)}, {[]api.Scene{part(2, 40), part(3, 100)}, rat(19, 25)}, {[]api.Scene{part(3, 100), part(2, 40)}, rat(19, 25)},
		{[]api.Scene{part(10, 0), part(20, 50), part(30, 100)}, rat(2, 3)}, {[]api.Scene{part(30, 0), part(20, 50), part(10, 100)}, rat(1, 3)}, {[]api.Scene{part(1, 0), part(599, 0)}, rat(0, 1)}, {[]api.Scene{part(600, 100), part(1, 100)}, rat(1, 1)}, {[]api.Scene{part(1, 1), part(600, 0)}, rat(1, 60100)}, {[]api.Scene{part(1, 99), part(600, 100)}, rat(60099, 60100)},
		{append(slices.Repeat([]api.Scene{part(600, 99)}, 19), part(600, 100)), rat(1981, 2000)}, {append(slices.Clone(long), part(599, 99)), rat(59301, 1199900)}, {append(slices.Clone(long), part(1, 1)), rat(1, 1140100)}, {append([]api.Scene{part(1, 1)}, long...), rat(1, 1140100)}, {slices.Repeat([]api.Scene{part(600, 99)}, 20), rat(99, 100)}, {slices.Repeat([]api.Scene{part(600, 100)}, 20), rat(1, 1)},
	} {
		v := look{play: api.Play{Scenes: c.scenes}}
		if r := ask(t, v).total; r != c.want {
			t.Errorf("Total: %v; want %v; %s", r, c.want, v.text())
		}
		if !keeps(t, v, c.want) {
			t.Errorf("Keeps %v: false; %s", c.want, v.text())
		}
	}
}

// P11.1, K4: of scenes with the same least share the first one counts, whatever minutes they have.
func TestWorst(t *testing.T) {
	for _, c := range []struct {
		seen        []int
		share, best int
	}{
		{[]int{40}, 40, 0}, {[]int{0}, 0, 0}, {[]int{100}, 100, 0}, {[]int{40, 60}, 40, 0}, {[]int{60, 40}, 40, 1}, {[]int{50, 50}, 50, 0}, {[]int{100, 99, 99}, 99, 1}, {[]int{60, 40, 50, 40}, 40, 1}, {[]int{3, 2, 1}, 1, 2}, {[]int{1, 2, 3}, 1, 0}, {[]int{50, 0, 100, 0, 0}, 0, 1},
		{append(slices.Repeat([]int{100}, 19), 1), 1, 19}, {slices.Repeat([]int{100}, 20), 100, 0}, {slices.Repeat([]int{0}, 20), 0, 0}, {append(slices.Repeat([]int{20, 19}, 9), 18, 18), 18, 18},
	} {
		for _, minutes := range []int{1, 77, 600} {
			v := look{}
			for i, seen := range c.seen {
				v.play.Scenes = append(v.play.Scenes, part(1+(i+1)*minutes%600, seen))
			}
			if a := ask(t, v); a.worst != reduced(c.share, 100) || a.scene != c.best {
				t.Errorf("Worst of %v: %v, %d", c.seen, a.worst, a.scene)
			}
			checkSeen(t, v, c.seen...)
		}
	}
}

// P11.1, K2 to K5: all pieces of up to four scenes with shares from 0 to 1.
func TestAllShares(t *testing.T) {
	shares, minutes := []int{0, 35, 40, 100}, []int{600, 1, 25, 300}
	var add func(v look, seen []int)
	add = func(v look, seen []int) {
		if len(seen) > 0 {
			checkSeen(t, v, seen...)
		}
		if len(seen) == 4 {
			return
		}
		for i, s := range shares {
			longer := v
			longer.play.Scenes = append(slices.Clone(v.play.Scenes), part(minutes[(i+len(seen))%4], s))
			add(longer, append(slices.Clone(seen), s))
		}
	}
	add(look{}, nil)
}

// near are the numbers that are next to one from 0 to 1: the nearest one below it that a number can be, and the nearest
// one above it.
func near(r api.Rat) (below, above api.Rat) {
	for d := mostRat - 1; below.D == 0 || above.D == 0; d-- {
		if below.D == 0 && (r.N*d-1)%r.D == 0 {
			below = rat((r.N*d-1)/r.D, d)
		}
		if above.D == 0 && (r.N*d+1)%r.D == 0 {
			above = rat((r.N*d+1)/r.D, d)
		}
	}
	return below, above
}

// P11.1, K5: a share that is equal to the number asked for, and as near to it as can be, and far away.
func TestKeeps(t *testing.T) {
	for _, scenes := range [][]api.Scene{
		{part(10, 40)}, {part(1, 0)}, {part(600, 100)}, {part(3, 1)}, {part(3, 99)}, {part(1, 40), part(600, 100)}, {part(600, 40), part(1, 100)}, {part(1, 1), part(600, 0)}, {part(599, 7), part(600, 93), part(1, 50)}, append(slices.Repeat([]api.Scene{part(600, 0)}, 19), part(599, 99)), append(slices.Repeat([]api.Scene{part(600, 100)}, 19), part(1, 99)), slices.Repeat([]api.Scene{part(600, 51)}, 20),
	} {
		v := look{play: api.Play{Scenes: scenes}}
		total := ask(t, v).total
		below, above := near(total)
		if !isNumber(below) || !isNumber(above) || compare(below, total) >= 0 || compare(above, total) <= 0 {
			t.Fatalf("near %v: %v, %v", total, below, above)
		}
		for _, r := range []api.Rat{total, below, rat(0, 1), rat(-1, 1), rat(-1, mostRat), rat(-mostRat, 1), rat(-mostRat, mostRat-1)} {
			if !keeps(t, v, r) {
				t.Errorf("Keeps %v: false; total %v", r, total)
			}
		}
		for _, r := range []api.Rat{above, rat(2, 1), rat(mostRat, 1), rat(mostRat, mostRat-1)} {
			if keeps(t, v, r) {
				t.Errorf("Keeps %v: true; total %v", r, total)
			}
		}
		for _, r := range []api.Rat{rat(1, 1), rat(1, 2), rat(2, 5), rat(1, mostRat), rat(mostRat-1, mostRat), rat(1, 3), rat(99, 100)} {
			if is := keeps(t, v, r); is != (compare(total, r) >= 0) {
				t.Errorf("Keeps %v: %v; total %v", r, is, total)
			}
		}
	}
}

func notNumbers() []api.Rat {
	return []api.Rat{
		rat(0, 0), rat(1, 0), rat(-1, 0), rat(0, 2), rat(2, 2), rat(2, 4), rat(-3, 6), rat(40, 100), rat(0, -1), rat(1, -2), rat(-1, -2), rat(-1, -1), rat(0, mostRat), rat(mostRat, mostRat),
		rat(mostRat+1, 1), rat(-mostRat-1, 1), rat(1, mostRat+1), rat(0, mostRat+1), rat(mostRat+1, mostRat+2), rat(1<<32, 1), rat(1, 1<<32+1), rat(math.MaxInt, 1), rat(math.MinInt, 1), rat(1, math.MaxInt), rat(1, math.MinInt), rat(math.MinInt, math.MinInt), rat(math.MaxInt, math.MinInt),
	}
}

// P11.1, K5: what is no number is refused, whatever else is wrong.
func TestNotNumbers(t *testing.T) {
	many := slices.Repeat(bodies(beside()), mostBodies+1)
	for _, r := range notNumbers() {
		for _, v := range []look{{play: example()}, {play: example(), others: bodies(front())}, {play: example(), others: many}, {}, {play: example(), eye: vec(most+1, 0, 0)}, {play: full()}} {
			if is, e := scene.Keeps(v.play, v.eye, v.others, r); is || e != api.ErrArg {
				t.Errorf("Keeps %v: %v, %v; %s", r, is, e, v.text())
			}
		}
	}
}

// P11.1, K2 to K5: pieces that are not valid are refused, with few further bodies and with too many.
func TestNotPlays(t *testing.T) {
	many := slices.Repeat(bodies(beside()), mostBodies+1)
	for _, p := range notPlays() {
		checkError(t, look{p, vec(0, 0, 0), nil}, api.ErrArg)
		checkError(t, look{p, vec(1, 2, 3), many}, api.ErrArg)
	}
}

// P11.1, K2 to K5: eyes that are not valid, or at the point of a target of any scene.
func TestNotEyes(t *testing.T) {
	few, many := bodies(beside()), slices.Repeat(bodies(beside()), mostBodies+1)
	for _, eye := range notPoints() {
		for _, others := range [][]api.Body{nil, few, many} {
			checkError(t, look{example(), eye, others}, api.ErrArg)
		}
	}
	p := full()
	p.Set = nil
	for i, s := range p.Scenes {
		p.Scenes[i].Bodies = nil
		for j := range s.Targets {
			s.Targets[j].At = vec(-1-i, 9, j)
		}
	}
	for i, s := range p.Scenes {
		for j, target := range s.Targets {
			checkError(t, look{p, target.At, nil}, api.ErrArg)
			if i == 0 || i == mostScenes-1 || j == 0 {
				checkError(t, look{p, target.At, many}, api.ErrArg)
			}
		}
	}
	for _, eye := range []api.Vec{vec(-1, 9, 60), vec(-21, 9, 0), vec(0, 9, 0), vec(-1, 8, 0), vec(1, -9, 0), vec(9, -1, 0)} {
		checkLook(t, look{p, eye, nil})
	}
	for _, eye := range []api.Vec{vec(most, most, most), vec(-most, -most, -most), vec(most, -most, 0)} {
		checkSeen(t, look{example(), eye, nil}, 100)
	}
}

// P11.1, K2 to K5: further bodies that are not valid, wherever they stand, also if there are too many.
func TestNotOthers(t *testing.T) {
	all := slices.Repeat(bodies(beside()), mostBodies)
	for _, wrong := range notBodies() {
		for _, others := range [][]api.Body{{wrong}, {wrong, front()}, {front(), wrong}, {front(), wrong, side()}, append(all[:mostBodies-1:mostBodies-1], wrong), append(all[:mostBodies:mostBodies], wrong), append(bodies(wrong), all...), slices.Repeat(bodies(wrong), 100)} {
			checkError(t, look{example(), vec(0, 0, 0), others}, api.ErrArg)
			checkError(t, look{full(), vec(0, 0, 0), others}, api.ErrArg)
		}
	}
	long := slices.Repeat(all, 1000)
	checkError(t, look{example(), vec(0, 0, 0), long}, api.ErrLimit)
	checkError(t, look{example(), vec(0, 0, 0), append(long, api.Body{})}, api.ErrArg)
}

// P11.1, K2 to K5: as many bodies as there may be for each scene, and more of them for some.
func TestCounts(t *testing.T) {
	came := map[api.Errno]int{}
	for _, c := range []struct {
		others, set int
		scenes      []int
		e           api.Errno
	}{
		{60, 0, []int{0}, api.OK}, {61, 0, []int{0}, api.ErrLimit}, {0, 60, []int{0}, api.OK}, {1, 60, []int{0}, api.ErrLimit}, {0, 0, []int{60}, api.OK}, {1, 0, []int{60}, api.ErrLimit}, {0, 61, []int{0}, api.ErrArg}, {0, 0, []int{61}, api.ErrArg}, {0, 60, []int{1}, api.ErrArg}, {5, 60, []int{1}, api.ErrArg},
		{20, 20, []int{20}, api.OK}, {21, 20, []int{20}, api.ErrLimit}, {20, 21, []int{20}, api.ErrLimit}, {20, 20, []int{21}, api.ErrLimit}, {1, 1, []int{58}, api.OK}, {1, 1, []int{59}, api.ErrLimit}, {58, 1, []int{1}, api.OK}, {59, 1, []int{1}, api.ErrLimit}, {30, 0, []int{30}, api.OK}, {31, 0, []int{30}, api.ErrLimit}, {30, 30, []int{0}, api.OK}, {31, 30, []int{0}, api.ErrLimit}, {1000, 0, []int{0}, api.ErrLimit},
		{20, 20, []int{20, 20, 20}, api.OK}, {20, 20, []int{21, 20, 20}, api.ErrLimit}, {20, 20, []int{20, 21, 20}, api.ErrLimit}, {20, 20, []int{20, 20, 21}, api.ErrLimit}, {20, 20, []int{0, 0, 40}, api.ErrLimit}, {20, 20, []int{40, 0, 0}, api.ErrLimit}, {20, 20, []int{40, 40, 40}, api.ErrLimit}, {0, 20, []int{40, 40, 40}, api.OK}, {1, 20, []int{40, 40, 40}, api.ErrLimit}, {1, 20, []int{39, 39, 40}, api.ErrLimit}, {1, 20, []int{39, 39, 39}, api.OK}, {2, 20, []int{0, 41, 0}, api.ErrArg}, {50, 0, []int{10, 0, 10, 5}, api.OK}, {50, 0, []int{11, 0}, api.ErrLimit}, {50, 0, []int{0, 11}, api.ErrLimit},
	} {
		came[c.e]++
		v := look{playOf(c.set, c.scenes...), vec(0, 0, 0), slices.Repeat(bodies(beside()), c.others)}
		if e := errorOf(v); e != c.e {
			t.Fatalf("%v: the test expects %v", c, e)
		}
		checkLook(t, v)
		if c.others > 0 { // the last of the further bodies counts too
			v.others[c.others-1] = wall()
			checkLook(t, v)
		}
	}
	v := look{full(), vec(0, 0, 0), nil}
	checkSeen(t, v, slices.Repeat([]int{100}, mostScenes)...)
	v.others = bodies(beside())
	checkError(t, v, api.ErrLimit)
	v.play.Set[19] = wall()
	v.others = nil
	checkSeen(t, v, make([]int, mostScenes)...)
	if len(came) != 3 {
		t.Errorf("errors: %v", came)
	}
}

// P11.1, K2 to K5: everything that can be wrong, alone and together with the rest.
func TestErrors(t *testing.T) {
	came := map[api.Errno]int{}
	wrongEnd := api.Play{Scenes: []api.Scene{part(10, 40), part(601, 40)}}
	list := []api.Play{example(), playOf(20, 20, 39), full(), {}, wrongEnd, playOf(1, 60), {Set: bodies(api.Body{}), Scenes: example().Scenes}}
	eyes := []api.Vec{vec(0, 0, 0), vec(55, 0, 0), vec(100, 0, 0), vec(100, 40, 0), vec(100, 59, 3), vec(0, most+1, 0)}
	all := slices.Repeat(bodies(beside()), mostBodies)
	for _, p := range list {
		for _, eye := range eyes {
			for _, others := range [][]api.Body{nil, {front()}, {front(), {}}, all[:20], all, append(slices.Clone(all), front()), append(slices.Clone(all), api.Body{}), make([]api.Body, 61)} {
				v := look{p, eye, others}
				checkLook(t, v)
				came[errorOf(v)]++
				for _, r := range []api.Rat{rat(1, 2), rat(2, 4), rat(1, 0)} {
					want := errorOf(v)
					if !isNumber(r) {
						want = api.ErrArg
					}
					if _, e := scene.Keeps(p, eye, others, r); e != want {
						t.Errorf("Keeps %v: %v; want %v; %s", r, e, want, v.text())
					}
				}
			}
		}
	}
	if came[api.OK] < 15 || came[api.ErrLimit] < 15 || came[api.ErrArg] < 200 {
		t.Errorf("errors: %v", came)
	}
}

// P11.1, K2 to K5: everything of all sizes.
func TestLooks(t *testing.T) {
	none, all, some, later := 0, 0, 0, 0
	for _, v := range looks() {
		if e := errorOf(v); e != api.OK {
			t.Fatalf("%s %v", v.text(), e)
		}
		checkLook(t, v)
		seen := seenOf(v)
		for _, n := range seen {
			switch n {
			case 0:
				none++
			case 100:
				all++
			default:
				some++
			}
		}
		if slices.Index(seen, slices.Min(seen)) > 0 {
			later++
		}
	}
	if none < 100 || all < 500 || some < 300 || later < 80 {
		t.Errorf("scenes seen not, wholly, partly: %d, %d, %d; least share not in the first scene: %d", none, all, some, later)
	}
}

// DOC.md, Rules: functions do not modify their arguments, a result shares no memory with a later one, and the same
// arguments lead to the same results.
func TestArgumentsStay(t *testing.T) {
	for _, v := range looks() {
		before := cloneLook(v)
		first := ask(t, v)
		want := slices.Clone(first.shares)
		for i := range first.shares {
			first.shares[i] = rat(-7, 3)
		}
		checkLook(t, v)
		keeps(t, v, rat(1, 3))
		scene.Valid(v.play)
		if !equalPlays(v.play, before.play) || v.eye != before.eye || !equalBodies(v.others, before.others) {
			t.Fatalf("changed: %s", v.text())
		}
		if second := ask(t, v).shares; !slices.Equal(second, want) {
			t.Errorf("%s %v, then %v", v.text(), want, second)
		}
	}
}

// DOC.md, Rules: lists that are cut from longer ones do not change what is behind them.
func TestRoomBehindLists(t *testing.T) {
	room := bodies(front(), wall(), wall(), wall())
	p := example()
	p.Set = room[:1]
	v := look{p, vec(0, 0, 0), bodies(side())}
	checkSeen(t, v, 0)
	v.others = nil
	checkSeen(t, v, 40)
	if !equalBodies(room, bodies(front(), wall(), wall(), wall())) {
		t.Errorf("changed: %v", room)
	}
}
