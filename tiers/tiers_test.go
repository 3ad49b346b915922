package tiers_test

import (
	"math/rand/v2"
	"slices"
	"testing"

	"barcarole/api"
	"barcarole/tiers"
)

// P12.1: the document's examples.
func TestExamples(t *testing.T) {
	plan := example()
	if i, e := tiers.Find(plan, 9); i != 2 || e != api.OK {
		t.Errorf("Find: %d, %v", i, e)
	}
	if !isBeside(t, plan, 5, 7) || isBeside(t, plan, 5, 9) || isBeside(t, plan, 5, 2) {
		t.Error("Beside")
	}
	if list := partsIn(t, plan, []int{9, 2, 5, 7}); !equalParts(list, [][]int{{7, 5}, {9}, {2}}) {
		t.Errorf("Parts: %v", list)
	}
	head, e := tiers.Head(plan[0], 3)
	want := api.Body{Base: []api.Point{{X: -2, Y: -2}, {X: 2, Y: -2}, {X: 2, Y: 2}, {X: -2, Y: 2}}, Low: 8, High: 13}
	if !equalBodies(head, want) || e != api.OK {
		t.Errorf("Head: %v, %v", head, e)
	}
}

// P12.1, L1: from no place to as many as there may be, and more.
func TestCounts(t *testing.T) {
	checkValid(t, nil, true)
	checkValid(t, []api.Place{}, true)
	for n := 1; n <= mostPlaces; n++ {
		checkValid(t, wholeRows(n), true)
	}
	for _, n := range []int{mostPlaces + 1, mostPlaces + 2, 2 * mostPlaces, 1000, 10000} {
		checkValid(t, wholeRows(n), false)
	}
	checkValid(t, make([]api.Place, mostPlaces), false)
	for _, plan := range randomPlans() {
		checkValid(t, plan, true)
	}
}

// changed are plans of several lengths, of which one place is changed, at each index.
func changed(change func(p *api.Place)) [][]api.Place {
	var plans [][]api.Place
	for _, n := range []int{1, 2, 3, mostPlaces} {
		for i := range n {
			if n < 10 || i < 2 || i > n-3 || i%50 < 2 {
				plan := wholeRows(n)
				change(&plan[i])
				plans = append(plans, plan)
			}
		}
	}
	return plans
}

// P12.1, L1: IDs at and around the limits.
func TestIDs(t *testing.T) {
	for _, id := range append(wide, -mostID, -3, -2, -1, 0, mostID-1, mostID, mostID+1, mostID+2, 2*mostID) {
		for _, plan := range changed(func(p *api.Place) { p.ID = id }) {
			isFree := true // of an earlier place with the same ID
			for _, p := range wholeRows(len(plan)) {
				isFree = isFree && p.ID != id
			}
			if isFree {
				checkValid(t, plan, isIn(id, 1, mostID))
			}
		}
	}
	for n := range 50 {
		for _, id := range []int{-n, n, 1 << n, mostID / 50 * n, mostID - n, mostID + n} {
			checkValid(t, []api.Place{place(id, 3, 4)}, isIn(id, 1, mostID))
		}
	}
}

// P12.1, L1: kinds and eyes, which have no influence on the order.
func TestKindsAndEyes(t *testing.T) {
	for _, kind := range append(wide, -2, -1, 0, 1, 2, 3, 4) {
		for _, plan := range changed(func(p *api.Place) { p.Kind = kind }) {
			checkValid(t, plan, kind == seat || kind == wheel)
		}
	}
	for _, n := range append(wide, -most-1, -most, -most+1, -1, 0, 1, most-1, most, most+1) {
		for _, eye := range []api.Vec{vec(n, 0, 0), vec(0, n, 0), vec(0, 0, n), vec(n, n, n), vec(most, -most, n)} {
			for _, plan := range changed(func(p *api.Place) { p.Eye = eye }) {
				checkValid(t, plan, isIn(n, -most, most))
			}
		}
	}
}

// P12.1, L1: all rows and positions around the limits.
func TestRows(t *testing.T) {
	for row := -3; row <= mostRow+3; row++ {
		for pos := -3; pos <= mostRow+3; pos++ {
			checkValid(t, []api.Place{place(1, row, pos)}, isIn(row, 0, mostRow) && isIn(pos, 0, mostRow))
		}
	}
	for _, n := range append(wide, -1, mostRow+1) {
		for _, p := range []api.Place{place(1, n, 50), place(1, 50, n), place(1, n, n)} {
			middle := place(2, 50, 51) // p is in order ahead of it, or behind it
			checkValid(t, []api.Place{p}, false)
			checkValid(t, []api.Place{p, middle}, false)
			checkValid(t, []api.Place{middle, p}, false)
		}
	}
}

// placesAt are all places with some numbers as Row and as Pos.
func placesAt(numbers ...int) []api.Place {
	var list []api.Place
	for _, row := range numbers {
		for _, pos := range numbers {
			list = append(list, place(1+100*row+pos, row, pos))
		}
	}
	return list
}

// P12.1, L1: all lists of two and three places, in order or out of it, by Row, by Pos, by both, or with both equal.
func TestOrder(t *testing.T) {
	for _, list := range [][]api.Place{placesAt(0, 1, 2), placesAt(0, 98, 99), placesAt(0, 1, 50, 99)} {
		for i, p := range list {
			for j, q := range list {
				q.ID += 20000
				checkValid(t, []api.Place{p, q}, i < j)
				if len(list) > 9 {
					continue
				}
				for k, r := range list {
					r.ID += 40000
					checkValid(t, []api.Place{p, q, r}, i < j && j < k)
				}
			}
		}
	}
}

// P12.1, L1: two places of a long plan exchange what they have; one repeats the place ahead of it.
func TestOrderOfLongPlans(t *testing.T) {
	for _, n := range []int{2, 3, 20, 150, mostPlaces} {
		for i := range n {
			for _, j := range []int{i - 1, n - 1, 0, n / 2} {
				if j < 0 || j == i || n > 20 && i%7 > 0 {
					continue
				}
				plan := wholeRows(n)
				plan[i], plan[j] = plan[j], plan[i]
				checkValid(t, plan, false)
				plan = wholeRows(n)
				plan[i].ID, plan[j].ID = plan[j].ID, plan[i].ID
				checkValid(t, plan, true)
				plan = wholeRows(n)
				plan[i].Row, plan[i].Pos = plan[j].Row, plan[j].Pos
				checkValid(t, plan, false)
			}
		}
	}
	backwards := wholeRows(mostPlaces)
	slices.Reverse(backwards)
	checkValid(t, backwards, false)
}

// P12.1, L1: all pairs of places with the same ID, next to each other and far apart.
func TestSameIDs(t *testing.T) {
	for _, n := range []int{2, 3, 12, mostPlaces} {
		for i := range n {
			for j := range i {
				if n > 12 && i-j > 1 && (i%17 > 0 || j%13 > 0) && (i < n-1 || j > 0) {
					continue
				}
				plan := wholeRows(n)
				plan[i].ID = plan[j].ID
				checkValid(t, plan, false)
				plan[i].ID = mostID
				checkValid(t, plan, true)
			}
		}
	}
}

// notPlans are not valid, by one reason each.
func notPlans() [][]api.Place {
	plans := [][]api.Place{wholeRows(mostPlaces + 1), wholeRows(1000)}
	for _, change := range []func(p *api.Place){
		func(p *api.Place) { p.ID = 0 }, func(p *api.Place) { p.ID = mostID + 1 }, func(p *api.Place) { p.Row = -1 }, func(p *api.Place) { p.Row = mostRow + 1 },
		func(p *api.Place) { p.Pos = -1 }, func(p *api.Place) { p.Pos = mostRow + 1 }, func(p *api.Place) { p.Kind = 0 }, func(p *api.Place) { p.Kind = 3 },
		func(p *api.Place) { p.Eye.X = most + 1 }, func(p *api.Place) { p.Eye.Y = -most - 1 }, func(p *api.Place) { p.Eye.Z = most + 1 },
		func(p *api.Place) { p.ID = 5 }, func(p *api.Place) { p.Row, p.Pos = 0, 4 }, func(p *api.Place) { p.Row, p.Pos = 0, 2 },
	} {
		plan := example()
		change(&plan[2])
		plans = append(plans, plan)
	}
	same, swapped := example(), example()
	same[3].ID = 7
	swapped[0], swapped[3] = swapped[3], swapped[0]
	return append(plans, same, swapped)
}

// P12.1, L2 to L4, L6: a plan that is not valid is told ahead of any ID, but behind the number of the IDs.
func TestNotPlans(t *testing.T) {
	many := idsOf(wholeRows(mostPlaces + 1))
	for _, plan := range notPlans() {
		checkValid(t, plan, false)
		for _, id := range []int{7, 5, 9, 2, 1, 0, -1, 3, mostID, mostID + 1} {
			checkFind(t, plan, id)
			checkBeside(t, plan, id, 7)
			checkBeside(t, plan, 7, id)
			checkBeside(t, plan, id, id)
		}
		for _, ids := range [][]int{nil, {7}, {7, 5}, {7, 7}, {0}, {1, 1}, many[:mostPlaces], many, make([]int, mostPlaces+1), make([]int, mostPlaces)} {
			checkParts(t, plan, ids)
			for _, heights := range [][]int{nil, {1}, {11}, slices.Repeat([]int{3}, len(ids)), make([]int, len(ids)+1)} {
				checkHeads(t, plan, ids, heights)
			}
		}
	}
}

// P12.1, L2: each ID of plans of all sizes, the first and the last one, and numbers that are IDs of none.
func TestFind(t *testing.T) {
	for _, plan := range randomPlans() {
		for _, id := range slices.Concat(idsOf(plan), wide, []int{-7, -1, 0, 1, 2, 3, 299, 300, 301, 302, mostID - 1, mostID, mostID + 1}) {
			checkFind(t, plan, id)
			checkFind(t, plan, id+1)
		}
	}
	ends := []api.Place{place(mostID, 0, 0), place(1, mostRow, mostRow)}
	for id, want := range map[int]int{mostID: 0, 1: 1} {
		if i, e := tiers.Find(ends, id); i != want || e != api.OK {
			t.Errorf("Find of %d: %d, %v", id, i, e)
		}
	}
	for _, id := range []int{-1, 0, 2, mostID - 1, mostID + 1} {
		if i, e := tiers.Find(ends, id); i != 0 || e != api.ErrNone {
			t.Errorf("Find of %d: %d, %v", id, i, e)
		}
	}
}

// P12.1, L3: all pairs of places of one row, of places at the ends of rows, and of places above each other.
func TestBeside(t *testing.T) {
	corners := slices.Concat(rowOf(0, 0, 1, 2, 97, 98, 99), rowOf(1, 0, 1, 3, 98, 99), rowOf(2, 0), rowOf(98, 1, 99), rowOf(99, 0, 1, 98, 99))
	for _, plan := range [][]api.Place{example(), corners, rowOf(5, 0, 1, 3, 4, 5, 8), wholeRows(201)} {
		for _, p := range plan {
			for _, q := range plan {
				checkBeside(t, plan, p.ID, q.ID)
			}
		}
	}
	for _, c := range []struct {
		a, b int
		want bool
	}{
		{100, 100, false}, {100, 101, true}, {101, 100, true}, {101, 102, true}, {102, 101, true}, {100, 102, false}, {102, 100, false}, {102, 197, false}, {198, 199, true},
		{199, 200, false}, {200, 199, false}, {100, 200, false}, {101, 200, false}, {200, 101, false}, {198, 299, false}, {201, 203, false}, {298, 299, true}, {299, 300, false},
		{9901, 9999, false}, {9999, 10000, false}, {10000, 10001, true}, {10098, 10099, true}, {10099, 10098, true}, {10099, 10099, false}, {10000, 10099, false}, {100, 10099, false},
	} {
		if is, e := tiers.Beside(corners, c.a, c.b); is != c.want || e != api.OK {
			t.Errorf("Beside of %d and %d: %v, %v", c.a, c.b, is, e)
		}
	}
}

// P12.1, L3: IDs that no place has, as one of the two or as both.
func TestBesideErrors(t *testing.T) {
	for _, plan := range [][]api.Place{nil, example(), wholeRows(mostPlaces)} {
		ids := append(wide, -1, 0, 1, 2, 3, 5, 7, 9, 300, 301, mostID, mostID+1)
		for _, a := range ids {
			for _, b := range ids {
				checkBeside(t, plan, a, b)
			}
		}
	}
}

// P12.1, L4: places that hang together in each way: cases whose parts are written out.
func TestParts(t *testing.T) {
	plan := slices.Concat(rowOf(0, 0, 1, 2, 3, 97, 98, 99), rowOf(1, 0, 1, 3, 5, 6), rowOf(2, 0))
	for _, c := range []struct {
		ids  []int
		want [][]int
	}{
		{nil, nil}, {[]int{}, nil}, {[]int{100}, [][]int{{100}}}, {[]int{300}, [][]int{{300}}}, {[]int{102}, [][]int{{102}}},
		{[]int{100, 101}, [][]int{{100, 101}}}, {[]int{101, 100}, [][]int{{100, 101}}}, {[]int{100, 102}, [][]int{{100}, {102}}}, {[]int{102, 100}, [][]int{{100}, {102}}},
		{[]int{103, 100, 101}, [][]int{{100, 101}, {103}}}, {[]int{102, 103, 100}, [][]int{{100}, {102, 103}}}, {[]int{102, 100, 101}, [][]int{{100, 101, 102}}},
		{[]int{199, 200}, [][]int{{199}, {200}}}, {[]int{200, 201, 198, 199}, [][]int{{198, 199}, {200, 201}}}, {[]int{200, 100, 300}, [][]int{{100}, {200}, {300}}},
		{[]int{103, 203}, [][]int{{103}, {203}}}, {[]int{102, 203}, [][]int{{102}, {203}}}, {[]int{205, 206, 203, 201, 200}, [][]int{{200, 201}, {203}, {205, 206}}},
		{idsOf(plan), [][]int{{100, 101, 102, 103}, {197, 198, 199}, {200, 201}, {203}, {205, 206}, {300}}},
	} {
		if list := partsIn(t, plan, c.ids); !equalParts(list, c.want) {
			t.Errorf("Parts of %v: %v", c.ids, list)
		}
		checkParts(t, plan, c.ids)
	}
}

// P12.1, L4: all sets of places of small plans, with IDs that rise, fall or are mixed along the plan, in three orders.
func TestPartsOfSubsets(t *testing.T) {
	random := rand.New(rand.NewPCG(12, 2))
	for _, ids := range [][]int{{1, 2, 3, 4, 5, 6, 7, 8, 9}, {9, 8, 7, 6, 5, 4, 3, 2, 1}, {5, 9, 1, 7, 3, mostID, 2, 8, 4}} {
		plan := slices.Concat(rowOf(4, 95, 96, 97, 98, 99), rowOf(5, 0, 1, 2, 4))
		for i := range plan {
			plan[i].ID = ids[i]
		}
		for set := range 1 << len(plan) {
			var chosen []int
			for i, p := range plan {
				if set>>i&1 == 1 {
					chosen = append(chosen, p.ID)
				}
			}
			checkParts(t, plan, chosen)
			slices.Reverse(chosen)
			checkParts(t, plan, chosen)
			random.Shuffle(len(chosen), func(i, j int) { chosen[i], chosen[j] = chosen[j], chosen[i] })
			checkParts(t, plan, chosen)
		}
	}
}

// P12.1, L4: as many IDs as there may be, in order, backwards and mixed; and some IDs of plans of all sizes.
func TestPartsOfLongPlans(t *testing.T) {
	random := rand.New(rand.NewPCG(12, 3))
	plan := wholeRows(mostPlaces)
	ids := idsOf(plan)
	for range 3 {
		list := partsIn(t, plan, ids)
		if len(list) != 3 || !slices.Equal(slices.Concat(list...), idsOf(plan)) || len(list[0]) != 100 || len(list[1]) != 100 {
			t.Errorf("Parts of whole rows: %v", list)
		}
		slices.Reverse(ids)
		random.Shuffle(len(ids)/2, func(i, j int) { ids[i], ids[j] = ids[j], ids[i] })
	}
	column := make([]api.Place, 100) // each place is a part
	for i := range column {
		column[i] = place(i+1, i, 99-i)
	}
	if list := partsIn(t, column, idsOf(column)); len(list) != 100 {
		t.Errorf("Parts of a column: %v", list)
	}
	for _, plan := range randomPlans() {
		for _, n := range []int{0, len(plan) / 4, len(plan) / 2, len(plan)} {
			checkParts(t, plan, someOf(random, plan, n))
		}
	}
}

// P12.1, L4, L6: each error of IDs alone and with those behind it, at the limits.
func TestErrorsOfIDs(t *testing.T) {
	whole := wholeRows(mostPlaces)
	all := idsOf(whole)
	for _, plan := range [][]api.Place{nil, example(), whole, wholeRows(299), wholeRows(mostPlaces + 1)} {
		for _, ids := range [][]int{
			nil, {7}, {0}, {7, 0}, {0, 7}, {7, 7}, {7, 5, 7}, {7, 7, 0}, {0, 7, 7}, {0, 0}, {7, 1, 1}, {8, 8}, {5, 2, 9, 7, 5}, {5, 5, 2, 9, 7}, {5, 2, 9, 7, mostID}, {mostID + 1}, {-7}, {7 - 1<<32}, {7 + 1<<32},
			all, all[1:], all[:299], slices.Concat(all, all[:1]), slices.Concat(all, []int{mostID}), slices.Concat(all[1:], all[1:2]), slices.Concat(all[1:], all[299:]), slices.Concat(all[1:], []int{0}), slices.Concat(all[1:], []int{301}),
			slices.Repeat([]int{7}, mostPlaces), slices.Repeat([]int{7}, mostPlaces+1), make([]int, mostPlaces), make([]int, mostPlaces+1), make([]int, 100000),
		} {
			checkParts(t, plan, ids)
			for _, heights := range [][]int{nil, {3}, {11}, {3, -1}, make([]int, len(ids)), make([]int, len(ids)+1), slices.Repeat([]int{11}, len(ids))} {
				checkHeads(t, plan, ids, heights)
			}
			if len(ids) > 0 {
				checkHeads(t, plan, ids, make([]int, len(ids)-1))
			}
		}
	}
}

// P12.1, L5: all heights around the limits, and eyes that are no points; nothing else of a place plays a part.
func TestHead(t *testing.T) {
	eyes := []api.Vec{vec(0, 0, 0), vec(0, 0, 10), vec(-7, 13, -5), vec(1998, -1998, 1990), vec(1999, 0, 0), vec(0, 0, 2000)}
	for _, n := range append(wide, most+1, -most-1) {
		eyes = append(eyes, vec(n, 0, 0), vec(0, n, 0), vec(0, 0, n), vec(most, most, n), vec(n, n, n))
	}
	for _, eye := range eyes {
		for _, height := range append(wide, -11, -2, -1, 0, 1, 2, 3, 9, 10, 11, 12, 100) {
			checkHead(t, at(eye), height)
			for _, p := range []api.Place{{}, {ID: -1, Row: -1, Pos: -1, Kind: -1}, {ID: mostID + 1, Row: 100, Pos: 100, Kind: 3}, {Row: 2, Pos: 3, Kind: wheel}} {
				p.Eye = eye
				checkHead(t, p, height)
			}
		}
	}
}

// P12.1, L5: heads at the border of points, on each side, below and above.
func TestHeadsAtBorder(t *testing.T) {
	near := []int{-2002, -2001, -2000, -1999, -1998, -1997, 0, 1988, 1989, 1990, 1991, 1997, 1998, 1999, 2000, 2001}
	for _, x := range near {
		for _, y := range near {
			for _, z := range near {
				for _, height := range []int{-1, 0, 1, 2, 9, 10, 11} {
					checkHead(t, at(vec(x, y, z)), height)
				}
			}
		}
	}
	for height := range mostHeight + 1 {
		for z := -most - 1; z <= most+1; z++ {
			if e := errorOfHead(vec(0, 0, z), height); isIn(z, -1998, 2000-height) != (e == api.OK) {
				t.Errorf("Z %d, height %d: %v", z, height, e)
			}
			checkHead(t, at(vec(0, 0, z)), height)
		}
	}
}

// P12.1, L6: heads in the order of the IDs, each with its own height.
func TestHeads(t *testing.T) {
	random := rand.New(rand.NewPCG(12, 4))
	plan := example()
	heads, e := tiers.Heads(plan, []int{2, 7}, []int{10, 0})
	want := []api.Body{
		{Base: []api.Point{{X: 22, Y: 7}, {X: 26, Y: 7}, {X: 26, Y: 11}, {X: 22, Y: 11}}, Low: 2, High: 14},
		{Base: []api.Point{{X: -2, Y: -2}, {X: 2, Y: -2}, {X: 2, Y: 2}, {X: -2, Y: 2}}, Low: 8, High: 10},
	}
	if !slices.EqualFunc(heads, want, equalBodies) || e != api.OK {
		t.Errorf("Heads: %v, %v", heads, e)
	}
	for _, plan := range randomPlans() {
		for _, n := range []int{0, len(plan) / 3, len(plan)} {
			heights := make([]int, n)
			for i := range heights {
				heights[i] = random.IntN(mostHeight + 1)
			}
			ids := someOf(random, plan, n)
			checkHeads(t, plan, ids, heights)
			if e := errorOfHeads(plan, ids, heights); e != api.OK {
				t.Errorf("Heads of %s: %v", text(ids), e)
			}
		}
	}
}

// P12.1, L6: heads with different errors behind each other: the first one in the order of the IDs counts, once there are as
// many heights as IDs.
func TestErrorsOfHeads(t *testing.T) {
	plan := example()
	plan[1].Eye, plan[2].Eye = vec(most, 0, 0), vec(0, 0, most-5) // 5 is out of range, 9 with a height above 5
	ids := []int{7, 5, 9, 2}
	heights := []int{-1, 0, 5, 6, 10, 11}
	for _, a := range ids {
		for _, b := range ids {
			for _, h := range heights {
				checkHeads(t, plan, []int{a}, []int{h})
				checkHeads(t, plan, []int{a, b}, []int{h})
				for _, k := range heights {
					checkHeads(t, plan, []int{a, b}, []int{h, k})
					checkHeads(t, plan, []int{a, b}, []int{h, k, 3})
					checkHeads(t, plan, []int{2, a, b}, []int{3, h, k})
					checkHeads(t, plan, []int{a, b, 3}, []int{h, k, 3})
				}
			}
		}
	}
	for _, c := range []struct {
		ids, heights []int
		want         api.Errno
	}{
		{[]int{7, 5}, []int{11, 3}, api.ErrArg}, {[]int{5, 7}, []int{3, 11}, api.ErrRange}, {[]int{5, 7}, []int{11, 11}, api.ErrArg}, {[]int{9, 7}, []int{6, -1}, api.ErrRange}, {[]int{9, 7}, []int{5, -1}, api.ErrArg},
		{[]int{7, 9}, []int{-1, 6}, api.ErrArg}, {[]int{5, 7}, []int{3}, api.ErrArg}, {[]int{5}, []int{3, 3}, api.ErrArg}, {[]int{5}, nil, api.ErrArg}, {nil, []int{3}, api.ErrArg}, {[]int{5, 8}, []int{3, 3}, api.ErrNone}, {nil, nil, api.OK},
	} {
		if l, e := tiers.Heads(plan, c.ids, c.heights); e != c.want || len(l) != 0 {
			t.Errorf("Heads of %v, heights %v: %v, %v; want %v", c.ids, c.heights, l, e, c.want)
		}
	}
}

// Rules: no function changes an argument, also where IDs are not in the order of the plan.
func TestArgumentsStay(t *testing.T) {
	random := rand.New(rand.NewPCG(12, 5))
	for _, plan := range append(randomPlans(), notPlans()...) {
		ids := someOf(random, plan, len(plan))
		heights := slices.Repeat([]int{4}, len(plan))
		planBefore, idsBefore, heightsBefore := slices.Clone(plan), slices.Clone(ids), slices.Clone(heights)
		tiers.Valid(plan)
		tiers.Find(plan, 7)
		tiers.Beside(plan, 7, 5)
		tiers.Parts(plan, ids)
		tiers.Heads(plan, ids, heights)
		if !slices.Equal(plan, planBefore) || !slices.Equal(ids, idsBefore) || !slices.Equal(heights, heightsBefore) {
			t.Errorf("changed: %s, %s, %s", text(plan), text(ids), text(heights))
		}
	}
}

// Rules: results share no memory with arguments, nor with each other: whoever writes to one, up to its capacity, changes no
// other, and calls afterwards answer as before.
func TestResultsAreNew(t *testing.T) {
	random := rand.New(rand.NewPCG(12, 6))
	for _, plan := range randomPlans() {
		ids := someOf(random, plan, len(plan))
		heights := slices.Repeat([]int{4}, len(plan))
		list := partsIn(t, plan, ids)
		for i := range list {
			later := slices.Concat(list[i+1:]...)
			part := list[i][:cap(list[i])]
			clear(part)
			if !slices.Equal(slices.Concat(list[i+1:]...), later) {
				t.Errorf("parts share memory: %v", list)
			}
		}
		heads, _ := tiers.Heads(plan, ids, heights)
		for i, id := range ids {
			want, _ := headOf(plan[indexOf(plan, id)].Eye, 4)
			if !equalBodies(heads[i], want) {
				t.Errorf("heads share memory: %v", heads[i])
			}
			clear(heads[i].Base[:cap(heads[i].Base)])
		}
		checkParts(t, plan, ids)
		checkHeads(t, plan, ids, heights)
	}
	head := headAt(t, vec(1, 2, 3), 4)
	clear(head.Base)
	checkHead(t, at(vec(1, 2, 3)), 4)
}

// Rules: results depend on the arguments alone, also beyond the length of a slice.
func TestCapacity(t *testing.T) {
	for _, plan := range randomPlans() {
		longer := append(slices.Clone(plan), make([]api.Place, 400)...)[:len(plan)]
		ids := append(idsOf(plan), make([]int, 400)...)[:len(plan)]
		heights := slices.Repeat([]int{2, 5, 7}, 400)[:len(plan)]
		checkValid(t, longer, true)
		checkParts(t, longer, ids)
		checkHeads(t, longer, ids, heights)
		for range 3 {
			if again := partsIn(t, longer, ids); !equalParts(again, partsIn(t, plan, idsOf(plan))) {
				t.Errorf("Parts of %s: %v", text(plan), again)
			}
		}
	}
}
