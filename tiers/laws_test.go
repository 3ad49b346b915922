package tiers_test

import (
	"math/rand/v2"
	"slices"
	"testing"

	"barcarole/api"
	"barcarole/shape"
	"barcarole/tiers"
)

// P12.2: each place is found by its ID, at its own index; no other number up to the greatest ID of small plans, and none
// around the IDs of great ones, finds anything.
func TestFindsItsPlace(t *testing.T) {
	for _, plan := range randomPlans() {
		ids := idsOf(plan)
		for i, id := range ids {
			if got, e := tiers.Find(plan, id); got != i || e != api.OK {
				t.Errorf("Find of %d in %s: %d, %v; want %d", id, text(plan), got, e, i)
			}
		}
		for id := -2; id <= 40; id++ {
			_, e := tiers.Find(plan, id)
			if (e == api.OK) != slices.Contains(ids, id) || e != api.OK && e != api.ErrNone {
				t.Errorf("Find of %d in %s: %v", id, text(plan), e)
			}
		}
		for _, id := range ids {
			other := id + 1
			if _, e := tiers.Find(plan, other); !slices.Contains(ids, other) && e != api.ErrNone {
				t.Errorf("Find of %d in %s: %v", other, text(plan), e)
			}
		}
	}
}

// P12.3: all pairs of places.
func TestBesideIsSymmetric(t *testing.T) {
	lone, ended, inner := 0, 0, 0
	for _, plan := range randomPlans() {
		if len(plan) > 120 {
			continue
		}
		for _, p := range plan {
			count := 0
			for _, q := range plan {
				is := isBeside(t, plan, p.ID, q.ID)
				if is != isBeside(t, plan, q.ID, p.ID) || is && p == q {
					t.Errorf("Beside of %v and %v: %v", p, q, is)
				}
				if is {
					count++
				}
			}
			switch count {
			case 0:
				lone++
			case 1:
				ended++
			case 2:
				inner++
			default:
				t.Errorf("%v is beside %d places of %s", p, count, text(plan))
			}
		}
	}
	if lone < 20 || ended < 100 || inner < 100 {
		t.Errorf("places beside none, one and two: %d, %d, %d", lone, ended, inner)
	}
}

// P12.4: each ID is in one part; within a part neighbours are beside each other, and no place is beside one of another part.
func TestPartsHangTogether(t *testing.T) {
	several := 0
	random := rand.New(rand.NewPCG(12, 7))
	for _, plan := range randomPlans() {
		for range 4 {
			ids := someOf(random, plan, random.IntN(min(len(plan), 60)+1))
			list := partsIn(t, plan, ids)
			together := slices.Sorted(slices.Values(slices.Concat(list...)))
			if !slices.Equal(together, slices.Sorted(slices.Values(ids))) {
				t.Errorf("Parts of %v: %v", ids, list)
			}
			checkNeighbours(t, plan, list)
			if len(list) > 1 && len(list) < len(ids) {
				several++
			}
		}
	}
	if several < 50 {
		t.Errorf("only %d times several parts of several places", several)
	}
}

func checkNeighbours(t *testing.T, plan []api.Place, list [][]int) {
	t.Helper()
	for i, part := range list {
		if len(part) == 0 {
			t.Errorf("an empty part in %v", list)
		}
		for k := 1; k < len(part); k++ {
			if !isBeside(t, plan, part[k-1], part[k]) {
				t.Errorf("%d and %d are in one part, in %s", part[k-1], part[k], text(plan))
			}
		}
		others := slices.Concat(list[i+1:]...)
		for _, a := range part {
			for _, b := range others {
				if isBeside(t, plan, a, b) {
					t.Errorf("%d and %d are in different parts, in %s", a, b, text(plan))
				}
			}
		}
	}
}

// P12.4, L4: the IDs of each part are in the order of the plan, and so are the first IDs of the parts.
func TestPartsAreInOrder(t *testing.T) {
	random := rand.New(rand.NewPCG(12, 8))
	for _, plan := range randomPlans() {
		for range 5 {
			list := partsIn(t, plan, someOf(random, plan, random.IntN(len(plan)+1)))
			last := -1
			for _, part := range list {
				if first := indexOf(plan, part[0]); first <= last {
					t.Errorf("parts out of order: %v in %s", list, text(plan))
				} else {
					last = first
				}
				if !slices.IsSortedFunc(part, func(a, b int) int { return indexOf(plan, a) - indexOf(plan, b) }) {
					t.Errorf("a part out of order: %v in %s", part, text(plan))
				}
			}
		}
	}
}

// P12.5: IDs in the order of the plan, backwards, by number, turned around, and mixed.
func TestOrderOfIDs(t *testing.T) {
	random := rand.New(rand.NewPCG(12, 9))
	for _, plan := range randomPlans() {
		ids := someOf(random, plan, random.IntN(len(plan)+1))
		want := partsIn(t, plan, ids)
		check := func() {
			t.Helper()
			if list := partsIn(t, plan, ids); !equalParts(list, want) {
				t.Errorf("Parts of %s in %s: %v; want %v", text(ids), text(plan), list, want)
			}
		}
		slices.SortFunc(ids, func(a, b int) int { return indexOf(plan, a) - indexOf(plan, b) })
		check()
		slices.Reverse(ids)
		check()
		slices.Sort(ids)
		check()
		if len(ids) > 0 {
			ids = append(slices.Clone(ids[len(ids)/2:]), ids[:len(ids)/2]...)
			check()
		}
		for range 5 {
			random.Shuffle(len(ids), func(i, j int) { ids[i], ids[j] = ids[j], ids[i] })
			check()
		}
	}
}

// checkOneMore finds whether one more place changes the number of parts as it has to, and returns in how many parts a place
// is beside it, and whether it stands ahead of such a place.
func checkOneMore(t *testing.T, plan []api.Place, ids []int, more int) (int, bool) {
	t.Helper()
	before := partsIn(t, plan, ids)
	after := partsIn(t, plan, append(slices.Clone(ids), more))
	joined, isAhead := 0, false
	for _, part := range before {
		for _, id := range part {
			if isBeside(t, plan, id, more) {
				joined++
				isAhead = isAhead || indexOf(plan, more) < indexOf(plan, id)
			}
		}
	}
	if len(after)-len(before) != 1-joined {
		t.Errorf("Parts of %v and %d more: %v, %v; %d joined", ids, more, before, after, joined)
	}
	return joined, isAhead
}

// P12.6: one more place joins two parts, lengthens one at its start or at its end, or stays alone: all subsets of a small plan.
func TestOneMorePlace(t *testing.T) {
	plan := slices.Concat(rowOf(3, 98, 99), rowOf(4, 0, 1, 2, 3, 5), rowOf(5, 0, 1))
	alone, start, end, joins := 0, 0, 0, 0
	for set := range 1 << len(plan) {
		var ids []int
		for i, p := range plan {
			if set>>i&1 == 1 {
				ids = append(ids, p.ID)
			}
		}
		for i, p := range plan {
			if set>>i&1 == 1 {
				continue
			}
			joined, isAhead := checkOneMore(t, plan, ids, p.ID)
			switch {
			case joined == 0:
				alone++
			case joined == 2:
				joins++
			case isAhead:
				start++
			default:
				end++
			}
		}
	}
	if alone < 300 || start < 300 || end < 300 || joins < 100 {
		t.Errorf("alone %d, start %d, end %d, joined %d", alone, start, end, joins)
	}
}

// P12.6: places are added one by one, in any order, until all of a plan are there.
func TestPlacesOneByOne(t *testing.T) {
	random := rand.New(rand.NewPCG(12, 10))
	for _, plan := range randomPlans() {
		if len(plan) > 60 {
			continue
		}
		ids := someOf(random, plan, len(plan))
		for n := range ids {
			checkOneMore(t, plan, ids[:n], ids[n])
		}
	}
}

// eyes are those whose heads are bodies, among them those next to the border of points.
func eyes() []api.Vec {
	random := rand.New(rand.NewPCG(12, 11))
	list := []api.Vec{vec(0, 0, 0), vec(1, -1, 7), vec(1998, 1998, 1990), vec(-1998, -1998, -1998), vec(1998, -1998, 0), vec(-1998, 1998, 1990)}
	for range 100 {
		list = append(list, randomEye(random))
	}
	return list
}

// P12.7: the eye is strictly inside each head whose height is above 0, and on the border of one whose height is 0.
func TestEyesAreInside(t *testing.T) {
	for _, eye := range eyes() {
		for height := range mostHeight + 1 {
			if in, e := shape.Inside(headAt(t, eye, height), eye); in != (height > 0) || e != api.OK {
				t.Errorf("eye %v in its head, height %d: %v, %v", eye, height, in, e)
			}
		}
	}
}

// P12.7: heads of all pairs of heights at one place.
func TestHeadsOfOnePlace(t *testing.T) {
	for _, eye := range eyes() {
		for a := range mostHeight + 1 {
			for b := range mostHeight + 1 {
				if apart, e := shape.Apart(headAt(t, eye, a), headAt(t, eye, b)); apart || e != api.OK {
					t.Errorf("heads at %v, heights %d and %d: apart %v, %v", eye, a, b, apart, e)
				}
			}
		}
	}
}

// P12.7: heads of eyes that are at least 4 apart, and of those that are just less, in X, in Y, in both, at any heights.
func TestHeadsAside(t *testing.T) {
	for _, eye := range []api.Vec{vec(0, 0, 0), vec(-1990, 1990, 1980), vec(1990, -1990, -1990)} {
		for x := -6; x <= 6; x++ {
			for y := -6; y <= 6; y++ {
				for _, z := range []int{-3, 0, 1, 5} {
					checkAside(t, eye, vec(eye.X+x, eye.Y+y, eye.Z+z))
				}
			}
		}
	}
	for _, far := range []api.Vec{vec(1998, 0, 0), vec(-4, 1998, 9), vec(3, -1998, 0), vec(-1998, -1998, -1998), vec(0, 4, 1990)} {
		checkAside(t, vec(0, 0, 0), far)
		checkAside(t, vec(-1998, 1998, 3), far)
	}
}

func checkAside(t *testing.T, a, b api.Vec) {
	t.Helper()
	isAside := max(a.X-b.X, b.X-a.X) >= 4 || max(a.Y-b.Y, b.Y-a.Y) >= 4
	for _, heights := range [][2]int{{0, 0}, {0, 10}, {10, 0}, {3, 3}, {10, 10}} {
		isAbove := a.Z-2 >= b.Z+heights[1] || b.Z-2 >= a.Z+heights[0]
		apart, e := shape.Apart(headAt(t, a, heights[0]), headAt(t, b, heights[1]))
		if apart != (isAside || isAbove) || e != api.OK {
			t.Errorf("heads at %v and %v, heights %v: apart %v, %v", a, b, heights, apart, e)
		}
	}
}

// P12.7: the heads of a plan of whole rows, all of whose eyes are at least 4 apart.
func TestHeadsOfPlan(t *testing.T) {
	plan := wholeRows(220)
	heights := make([]int, len(plan))
	for i := range heights {
		heights[i] = i % (mostHeight + 1)
	}
	heads, e := tiers.Heads(plan, idsOf(plan), heights)
	if e != api.OK || len(heads) != len(plan) {
		t.Errorf("%d heads, %v", len(heads), e)
	}
	for i, a := range heads {
		for j, b := range heads {
			if apart, e := shape.Apart(a, b); apart != (i != j) || e != api.OK {
				t.Errorf("heads %d and %d: apart %v, %v", i, j, apart, e)
			}
		}
	}
}
