package party_test

import (
	"fmt"
	"slices"
	"testing"

	"barcarole/api"
	"barcarole/party"
)

// P13.1: the document's examples.
func TestExamples(t *testing.T) {
	plan := example()
	wantFits(t, plan, of(1, adult, adult), []int{7, 5}, api.OK)
	wantFits(t, plan, of(1, adult, adult), []int{7, 9}, api.ErrPlace)
	wantFits(t, plan, of(1, adult, with(child, 0)), []int{5, 7}, api.OK)
	wantFits(t, plan, of(2, adult, chair), []int{5, 9}, api.OK)
	wantFits(t, plan, of(1, adult, chair), []int{5, 9}, api.ErrParts)
	wantFits(t, plan, of(2, chair, child), []int{9, 5}, api.ErrAlone)
	wantPrefix(t, plan, of(2, adult, adult), []int{7, 7}, api.ErrTaken)
}

// P13.1, M1: from no person to as many as there may be, and more.
func TestCounts(t *testing.T) {
	checkValid(t, api.Party{Parts: 1}, false)
	checkValid(t, api.Party{People: []api.Person{}, Parts: 1}, false)
	for n := 1; n <= mostPeople; n++ {
		for _, person := range []api.Person{adult, child, chair} {
			checkValid(t, like(n, person), true)
		}
	}
	for _, n := range []int{mostPeople + 1, mostPeople + 2, 2 * mostPeople, 257, 65537, 1000000} {
		if party.Valid(like(n, adult)) {
			t.Errorf("a party of %d people is valid", n)
		}
	}
	checkValid(t, like(mostPeople+1, adult), false)
	checkValid(t, like(mostPeople, api.Person{}), false)
}

// P13.1, M1: heights at and around the limits, of each person.
func TestHeights(t *testing.T) {
	heights := slices.Clone(wide)
	for h := -12; h <= 24; h++ {
		heights = append(heights, h)
	}
	for _, n := range []int{1, 2, 3, mostPeople} {
		for i := range n {
			for _, h := range heights {
				for _, person := range []api.Person{adult, child, chair} {
					p := like(n, person)
					p.People[i].Height = h
					checkValid(t, p, isIn(h, 0, mostHeight))
				}
			}
		}
	}
}

// P13.1, M1: all companions, of all people.
func TestCompanions(t *testing.T) {
	for n := 1; n <= mostPeople; n++ {
		for i := range n {
			for k := -3; k <= mostPeople+3; k++ {
				p := like(n, adult)
				p.People[i].With = k
				checkValid(t, p, k == -1 || k != i && isIn(k, 0, n-1))
			}
			for _, k := range wide {
				p := like(n, adult)
				p.People[i].With = k
				checkValid(t, p, false)
			}
		}
	}
}

// P13.1, M1: a child may have an adult as companion and an adult a child, but a child no child; it may have nobody.
func TestCompanionsOfChildren(t *testing.T) {
	for n := 2; n <= mostPeople; n++ {
		for i := range n {
			for k := range n {
				if i == k {
					continue
				}
				for kinds := range 4 {
					p := like(n, adult)
					p.People[i].With = k
					p.People[i].Child = kinds&1 != 0
					p.People[k].Child = kinds&2 != 0
					checkValid(t, p, kinds != 3)
				}
				p := like(n, child)
				checkValid(t, p, true)
				p.People[i].With = k
				checkValid(t, p, false)
				p.People[k].Child = false
				checkValid(t, p, true)
				p.People[k].With = i
				checkValid(t, p, true)
			}
		}
	}
}

// P13.1, M1: wheelchairs have no influence.
func TestChairsInParties(t *testing.T) {
	for kinds := range 64 {
		p := of(1, adult, adult, adult)
		for i := range p.People {
			p.People[i].Chair = kinds>>(2*i)&1 != 0
			p.People[i].Child = kinds>>(2*i)&2 != 0
			p.People[i].With = (i + 1) % 3
		}
		a, b, c := p.People[0].Child, p.People[1].Child, p.People[2].Child
		checkValid(t, p, !(a && b) && !(b && c) && !(c && a))
	}
}

// P13.1, M1: Parts at and around the limits; it may be more than there are people.
func TestPartsOfParties(t *testing.T) {
	numbers := slices.Clone(wide)
	for n := -15; n <= 30; n++ {
		numbers = append(numbers, n)
	}
	for n := 1; n <= mostPeople; n++ {
		for _, parts := range numbers {
			p := like(n, adult)
			p.Parts = parts
			checkValid(t, p, isIn(parts, 1, mostPeople))
		}
	}
}

// wrongParties are parties that are not valid, for each reason.
func wrongParties() []api.Party {
	tall, low := adult, adult
	tall.Height, low.Height = mostHeight+1, -1
	return []api.Party{
		{}, {Parts: 1}, {Parts: mostPeople}, like(mostPeople+1, adult),
		of(0, adult, adult), of(-1, adult, adult), of(mostPeople+1, adult, adult),
		of(1, tall, adult), of(1, adult, tall), of(1, low, adult), of(1, adult, low),
		of(1, with(adult, 0), adult), of(1, adult, with(adult, 1)), of(1, adult, with(adult, 2)),
		of(1, with(adult, -2), adult), of(1, with(child, 1), child), of(1, child, with(child, 0)),
	}
}

// wrongPlans are plans that are not valid, for each reason; all have the places 1 and 2 at first, in two parts.
func wrongPlans() [][]api.Place {
	wrong := func(change func(p *api.Place)) []api.Place {
		plan := []api.Place{place(1, 0, 3, seat), place(2, 0, 5, seat), place(3, 7, 5, seat)}
		change(&plan[2])
		return plan
	}
	tooMany := []api.Place{place(1, 0, 0, seat), place(2, 0, 2, seat)}
	for i := range mostPlaces - 1 {
		tooMany = append(tooMany, place(100+i, 1+i/100, i%100, seat))
	}
	return [][]api.Place{
		tooMany,
		wrong(func(p *api.Place) { p.ID = 0 }), wrong(func(p *api.Place) { p.ID = -1 }), wrong(func(p *api.Place) { p.ID = mostID + 1 }),
		wrong(func(p *api.Place) { p.ID = 1 }), wrong(func(p *api.Place) { p.ID = 2 }),
		wrong(func(p *api.Place) { p.Row = -1 }), wrong(func(p *api.Place) { p.Row = 100 }),
		wrong(func(p *api.Place) { p.Pos = -1 }), wrong(func(p *api.Place) { p.Pos = 100 }),
		wrong(func(p *api.Place) { p.Kind = 0 }), wrong(func(p *api.Place) { p.Kind = 3 }),
		wrong(func(p *api.Place) { p.Eye.X = 2001 }), wrong(func(p *api.Place) { p.Eye.Y = -2001 }), wrong(func(p *api.Place) { p.Eye.Z = 2001 }),
		wrong(func(p *api.Place) { p.Row, p.Pos = 0, 4 }), wrong(func(p *api.Place) { p.Row, p.Pos = 0, 5 }),
	}
}

// wantArg checks that both calls answer ErrArg.
func wantArg(t *testing.T, plan []api.Place, p api.Party, seats []int) {
	t.Helper()
	if e := party.Prefix(plan, p, seats); e != api.ErrArg {
		t.Errorf("Prefix of %s, %v: error %d; want %d", text(p), seats, e, api.ErrArg)
	}
	if e := party.Fits(plan, p, seats); e != api.ErrArg {
		t.Errorf("Fits of %s, %v: error %d; want %d", text(p), seats, e, api.ErrArg)
	}
}

// P13.1, M2, M3: ErrArg for a plan that is not valid, alone and ahead of each other error.
func TestWrongPlans(t *testing.T) {
	for i, plan := range wrongPlans() {
		for _, p := range []api.Party{of(2, adult, adult), of(1, adult, adult), of(2, chair, with(child, 0)), like(mostPeople, child)} {
			for _, seats := range [][]int{nil, {1}, {1, 2}, {2, 1}, {1, 1}, {77, 1}, {0, 0}, {1, 2, 3}} {
				wantArg(t, plan, p, seats)
			}
		}
		for _, p := range wrongParties() {
			wantArg(t, plan, p, []int{1, 2})
		}
		if i == 0 {
			wantFits(t, plan[:mostPlaces], of(2, adult, adult), []int{1, 2}, api.OK)
		} else {
			wantFits(t, plan[:2], of(2, adult, adult), []int{1, 2}, api.OK)
		}
	}
}

// P13.1, M2, M3: ErrArg for a party that is not valid, alone and ahead of each other error.
func TestWrongParties(t *testing.T) {
	for _, p := range wrongParties() {
		checkValid(t, p, false)
		for _, seats := range [][]int{nil, {100}, {100, 101}, {100, 102}, {100, 100}, {77, 100}, {501, 503}, {100, 101, 102}, slices.Repeat([]int{1}, mostPeople+1)} {
			wantArg(t, hall(), p, seats)
		}
	}
}

// seatsFrom are places of the hall, one behind the other, from an ID on.
func seatsFrom(id, n int) []int {
	var seats []int
	for i := range n {
		seats = append(seats, id+i)
	}
	return seats
}

// P13.1, M2, M3: no seats, fewer than people, as many, and more.
func TestNumbersOfSeats(t *testing.T) {
	plan := greatPlan()
	for n := 1; n <= mostPeople; n++ {
		p := like(n, adult)
		for count := range n + 4 {
			seats := seatsFrom(802, count)
			want := api.OK
			if count > n {
				want = api.ErrArg
			}
			wantPrefix(t, plan, p, seats, want)
			if count != n {
				want = api.ErrArg
			}
			wantFits(t, plan, p, seats, want)
		}
		wantArg(t, plan, p, make([]int, n+1))
		wantArg(t, plan, p, make([]int, 100000))
	}
	for _, e := range []api.Errno{party.Prefix(nil, of(1, adult), nil), party.Prefix(plan, of(1, adult), []int{})} {
		if e != api.OK {
			t.Errorf("no seats: error %d", e)
		}
	}
}

// P13.1, M3: ErrArg for too few seats comes ahead of an error of Prefix.
func TestTooFewSeats(t *testing.T) {
	for _, c := range []struct {
		seats []int
		want  api.Errno
	}{{[]int{77}, api.ErrNone}, {[]int{100, 100}, api.ErrTaken}, {[]int{501}, api.ErrPlace}, {[]int{100, 102}, api.ErrApart}, {[]int{100, 101}, api.OK}, {nil, api.OK}} {
		p := of(1, child, with(adult, 0), child)
		wantPrefix(t, hall(), p, c.seats, c.want)
		wantFits(t, hall(), p, c.seats, api.ErrArg)
	}
}

// P13.1, M2: IDs that no place has, at each person; 0 and -1 are no IDs of places either.
func TestNoPlace(t *testing.T) {
	for _, id := range append(wide, -1, 0, 1, 99, 108, 110, 401, mostID, mostID+1) {
		for n := 1; n <= 8; n++ {
			for i := range n {
				seats := seatsFrom(100, n)
				seats[i] = id
				wantFits(t, hall(), like(n, adult), seats, api.ErrNone)
				for count := range n + 1 {
					want := api.OK
					if count > i {
						want = api.ErrNone
					}
					wantPrefix(t, hall(), like(n, adult), seats[:count], want)
				}
			}
		}
		wantFits(t, nil, of(1, adult), []int{id}, api.ErrNone)
	}
	wantFits(t, greatPlan(), of(1, adult), []int{1000}, api.OK)
	wantFits(t, greatPlan(), of(1, adult), []int{701}, api.OK)
	wantFits(t, greatPlan(), of(1, adult), []int{700}, api.ErrNone)
	wantFits(t, greatPlan(), of(1, adult), []int{1001}, api.ErrNone)
}

// P13.1, M2: two people with the same ID, next to each other and far apart; the second one has the error.
func TestTakenPlaces(t *testing.T) {
	for n := 2; n <= mostPeople; n++ {
		for i := range n {
			for k := range i {
				seats := seatsFrom(802, n)
				seats[i] = seats[k]
				wantFits(t, greatPlan(), like(n, adult), seats, api.ErrTaken)
				wantPrefix(t, greatPlan(), like(n, adult), seats[:i+1], api.ErrTaken)
				wantPrefix(t, greatPlan(), like(n, adult), seats[:i], api.OK)
			}
		}
	}
	wantFits(t, hall(), like(12, adult), slices.Repeat([]int{105}, 12), api.ErrTaken)
}

// P13.1, M2: people with a chair and without, children among them, at places of both kinds.
func TestKindsOfPlaces(t *testing.T) {
	for n := 1; n <= 4; n++ {
		for i := range n {
			for kinds := range 8 {
				p := like(n, adult)
				p.People[i].Chair = kinds&1 != 0
				p.People[i].Child = kinds&2 != 0
				seats := seatsFrom(100, n)
				if kinds&4 != 0 {
					seats[i] = 503
				}
				want := api.OK
				if (kinds&1 != 0) != (kinds&4 != 0) {
					want = api.ErrPlace
				}
				wantPrefix(t, hall(), p, seats, want)
				wantPrefix(t, hall(), p, seats[:i], api.OK)
			}
		}
	}
	wantFits(t, hall(), of(1, chair), []int{503}, api.OK)
	wantFits(t, hall(), of(1, chair), []int{502}, api.ErrPlace)
	wantFits(t, hall(), of(1, adult, chair, adult, chair), []int{500, 501, 502, 503}, api.OK)
	wantFits(t, hall(), of(1, chair, chair, adult, chair), []int{501, 503, 502, 505}, api.ErrParts)
}

// P13.1, M2: a With that is earlier or later; its error is that of the later one of the two people.
func TestCompanionsApart(t *testing.T) {
	for n := 2; n <= mostPeople; n++ {
		for i := range n {
			for k := range n {
				if i == k {
					continue
				}
				p := like(n, adult)
				p.People[i].With = k
				seats := seatsFrom(802, n)
				want := api.OK
				if i != k+1 && k != i+1 {
					want = api.ErrApart
				}
				wantFits(t, greatPlan(), p, seats, want)
				for count := range n {
					wantHere := want
					if count <= max(i, k) {
						wantHere = api.OK // of the two people only the first one has a seat
					}
					wantPrefix(t, greatPlan(), p, seats[:count], wantHere)
				}
				p.People[k].With = i
				wantFits(t, greatPlan(), p, seats, want)
			}
		}
	}
}

// P13.1, M2: who is beside whom: positions that differ by 1, in the same row.
func TestBesideCompanions(t *testing.T) {
	for _, p := range []api.Party{of(2, adult, with(child, 0)), of(2, with(adult, 1), adult), of(2, with(adult, 1), with(adult, 0)), of(2, with(child, 1), adult)} {
		for pair, want := range map[[2]int]api.Errno{
			{100, 101}: api.OK, {106, 107}: api.OK, {100, 102}: api.ErrApart, {100, 200}: api.ErrApart, {100, 201}: api.ErrApart,
			{107, 200}: api.ErrApart, {400, 402}: api.ErrApart, {100, 107}: api.ErrApart, {101, 202}: api.ErrApart, {100, 300}: api.ErrApart,
		} {
			wantPrefix(t, hall(), p, []int{pair[0], pair[1]}, want)
			wantPrefix(t, hall(), p, []int{pair[1], pair[0]}, want)
			wantPrefix(t, hall(), p, []int{pair[1]}, api.OK)
		}
	}
	free := of(2, adult, adult)
	wantFits(t, hall(), free, []int{100, 302}, api.OK)
}

// P13.1, M2: somebody who is the With of several people, earlier and later ones, can be beside two of them.
func TestSharedCompanions(t *testing.T) {
	three := [][]api.Person{
		{adult, with(child, 0), with(child, 0)}, {with(child, 1), adult, with(child, 1)}, {with(child, 2), with(child, 2), adult},
	}
	for i, people := range three {
		p := of(3, people...)
		seats := seatsFrom(100, 3) // the one in the middle is person 1
		seats[i], seats[1] = seats[1], seats[i]
		wantFits(t, hall(), p, seats, api.OK)
		for k := range 3 {
			far := slices.Clone(seats)
			far[k] = 300
			wantFits(t, hall(), p, far, api.ErrApart)
			far[k] = 400
			wantPrefix(t, hall(), p, far, api.ErrApart)
		}
		last := slices.Clone(seats)
		last[i], last[(i+1)%3] = last[(i+1)%3], last[i]
		wantFits(t, hall(), p, last, api.ErrApart)
	}
	four := of(4, adult, with(adult, 0), with(adult, 0), with(adult, 0))
	for i := range 4 {
		seats := seatsFrom(100, 4)
		seats[0], seats[i] = seats[i], seats[0]
		wantFits(t, hall(), four, seats, api.ErrApart)
	}
	chain := of(1, with(adult, 1), with(adult, 2), with(adult, 3), adult)
	wantFits(t, hall(), chain, []int{100, 101, 102, 103}, api.OK)
	wantFits(t, hall(), chain, []int{103, 102, 101, 100}, api.OK)
	wantFits(t, hall(), chain, []int{100, 101, 103, 102}, api.ErrApart)
	ring := of(1, with(adult, 1), with(adult, 2), with(adult, 0))
	wantFits(t, hall(), ring, []int{100, 101, 102}, api.ErrApart)
}

// P13.1, M2: two errors of one person: the one that is named first.
func TestErrorsOfOnePerson(t *testing.T) {
	bound := of(3, adult, adult, with(adult, 0))
	wantPrefix(t, hall(), bound, []int{100, 102, 77}, api.ErrNone)   // apart from 0 as well
	wantPrefix(t, hall(), bound, []int{100, 102, 102}, api.ErrTaken) // and apart from 0
	wantPrefix(t, hall(), bound, []int{100, 102, 100}, api.ErrTaken) // and not beside 0
	wantPrefix(t, hall(), bound, []int{100, 102, 501}, api.ErrPlace) // and apart from 0
	wantPrefix(t, hall(), bound, []int{500, 102, 501}, api.ErrPlace)
	wantPrefix(t, hall(), bound, []int{100, 102, 103}, api.ErrApart)

	rolling := of(3, adult, chair, adult)
	wantPrefix(t, hall(), rolling, []int{100, 501, 501}, api.ErrTaken) // and a place for a wheelchair
	rolling.People[2].With = 0
	wantPrefix(t, hall(), rolling, []int{100, 501, 501}, api.ErrTaken) // and apart from 0
	wantPrefix(t, hall(), rolling, []int{77, 501, 77}, api.ErrNone)

	wantFits(t, hall(), like(2, adult), []int{77, 77}, api.ErrNone)
	wantPrefix(t, hall(), of(2, with(adult, 1), adult), []int{100, 100}, api.ErrTaken)
	wantPrefix(t, hall(), of(2, with(adult, 1), adult), []int{100, 0}, api.ErrNone)
	wantPrefix(t, hall(), of(2, with(adult, 1), chair), []int{100, 102}, api.ErrPlace)
	wantPrefix(t, hall(), of(2, with(adult, 1), chair), []int{100, 503}, api.ErrApart)
}

// P13.1, M2: errors of two people, in both orders: that of the first one who has an error, whatever its number is.
func TestErrorsOfTwoPeople(t *testing.T) {
	// The people 0 and 1 sit at 100 and 101; each of the others, with some seat, has one error and no further one.
	faults := []struct {
		person api.Person
		id     int
		want   api.Errno
	}{
		{adult, 77, api.ErrNone}, {adult, 0, api.ErrNone}, {adult, 100, api.ErrTaken}, {adult, 101, api.ErrTaken}, {adult, 503, api.ErrPlace},
		{chair, 104, api.ErrPlace}, {with(adult, 0), 105, api.ErrApart}, {with(child, 1), 106, api.ErrApart},
	}
	right := func() (api.Party, []int) { return like(6, adult), []int{100, 101, 300, 302, 400, 402} }
	for _, first := range faults {
		for _, second := range faults {
			for i := 2; i < 6; i++ {
				for k := i + 1; k < 6; k++ {
					p, seats := right()
					p.People[i], seats[i] = first.person, first.id
					p.People[k], seats[k] = second.person, second.id
					wantFits(t, hall(), p, seats, first.want)
					wantPrefix(t, hall(), p, seats[:k], first.want)
					wantPrefix(t, hall(), p, seats[:i], api.OK)
				}
			}
		}
	}
	p, seats := right()
	wantFits(t, hall(), p, seats, api.OK)
}

// P13.1, M3: as many parts as may be, fewer, and more, in one row and in several.
func TestParts(t *testing.T) {
	for n := 1; n <= mostPeople; n++ {
		for parts := 1; parts <= n; parts++ {
			var seats []int
			for i := range n { // parts - 1 people alone, and the others together
				if i < parts-1 {
					seats = append(seats, 802+2*i)
				} else {
					seats = append(seats, 850+i)
				}
			}
			for allowed := 1; allowed <= mostPeople; allowed++ {
				want := api.OK
				if parts > allowed {
					want = api.ErrParts
				}
				p := like(n, adult)
				p.Parts = allowed
				wantFits(t, greatPlan(), p, seats, want)
				slices.Reverse(seats)
				wantFits(t, greatPlan(), p, seats, want)
				wantPrefix(t, greatPlan(), p, seats, api.OK)
			}
		}
	}
	wantFits(t, hall(), of(1, adult, adult), []int{107, 200}, api.ErrParts)
	wantFits(t, hall(), of(2, adult, adult), []int{107, 200}, api.OK)
	wantFits(t, hall(), of(1, adult, adult, adult), []int{100, 102, 101}, api.OK)
	wantFits(t, hall(), of(2, adult, adult, adult), []int{100, 102, 104}, api.ErrParts)
	wantFits(t, hall(), of(3, adult, adult, adult), []int{400, 402, 404}, api.OK)
	wantFits(t, hall(), of(2, adult, adult, adult), []int{400, 402, 404}, api.ErrParts)
}

// P13.1, M3: in each part somebody who is not a child; in two parts of two and three people, all kinds of people.
func TestChildrenAlone(t *testing.T) {
	for order := range 5 { // which of the five people is first
		for children := range 32 {
			p := of(2, adult, adult, adult, adult, adult)
			seats := []int{100, 101, 300, 301, 302}
			for i := range p.People {
				p.People[i].Child = children>>i&1 != 0
			}
			p.People = append(p.People[order:], p.People[:order]...)
			seats = append(seats[order:], seats[:order]...)
			want := api.OK
			if children&3 == 3 || children>>2 == 7 {
				want = api.ErrAlone
			}
			wantFits(t, hall(), p, seats, want)
			wantPrefix(t, hall(), p, seats, api.OK)
		}
	}
}

// P13.1, M3: parties of children alone; children in chairs are children too.
func TestPartiesOfChildren(t *testing.T) {
	for n := 1; n <= mostPeople; n++ {
		p := like(n, child)
		wantFits(t, greatPlan(), p, seatsFrom(802, n), api.ErrAlone)
		for i := range n {
			q := copied(p)
			q.People[i].Child = false
			wantFits(t, greatPlan(), q, seatsFrom(802, n), api.OK)
			if n > 1 {
				far := seatsFrom(802, n)
				far[i] = 950
				wantFits(t, greatPlan(), q, far, api.ErrAlone)
			}
		}
	}
	rolling := chair
	rolling.Child = true
	wantFits(t, hall(), of(1, rolling), []int{501}, api.ErrAlone)
	wantFits(t, hall(), of(1, chair, child), []int{501, 500}, api.OK)
	wantFits(t, hall(), of(1, rolling, adult), []int{501, 502}, api.OK)
	wantFits(t, hall(), of(1, rolling, with(child, -1)), []int{501, 502}, api.ErrAlone)
}

// P13.1, M3: an adult in another part is not enough; one in the middle of a part is, in whatever order the people are.
func TestGuardians(t *testing.T) {
	wantFits(t, hall(), of(1, child, adult, child), []int{100, 101, 102}, api.OK)
	wantFits(t, hall(), of(1, child, child, adult), []int{100, 101, 102}, api.OK)
	wantFits(t, hall(), of(1, child, child, adult), []int{102, 100, 101}, api.OK)
	wantFits(t, hall(), of(2, child, child, adult), []int{100, 101, 103}, api.ErrAlone)
	wantFits(t, hall(), of(2, child, child, adult), []int{100, 101, 200}, api.ErrAlone)
	wantFits(t, hall(), of(2, child, child, adult), []int{100, 101, 201}, api.ErrAlone)
	wantFits(t, hall(), of(2, adult, adult, child), []int{100, 101, 103}, api.ErrAlone)
	wantFits(t, hall(), of(2, adult, adult, child, child), []int{100, 103, 101, 104}, api.OK)
	wantFits(t, hall(), of(2, adult, with(adult, 2), child), []int{100, 102, 103}, api.OK)
}

// P13.1, M3: errors of Prefix ahead of ErrParts, and this ahead of ErrAlone.
func TestErrorsOfFits(t *testing.T) {
	two := of(1, child, child)
	wantFits(t, hall(), two, []int{100, 102}, api.ErrParts) // and alone
	wantFits(t, hall(), two, []int{100, 101}, api.ErrAlone)
	wantFits(t, hall(), two, []int{100, 77}, api.ErrNone)
	wantFits(t, hall(), two, []int{100, 100}, api.ErrTaken)
	wantFits(t, hall(), two, []int{100, 503}, api.ErrPlace)
	wantFits(t, hall(), of(1, child, with(adult, 0)), []int{100, 102}, api.ErrApart) // and two parts, one of them a child
	wantFits(t, hall(), of(2, child, with(adult, 0)), []int{100, 102}, api.ErrApart)
	wantFits(t, hall(), of(2, child, adult), []int{100, 102}, api.ErrAlone)
	wantFits(t, hall(), of(1, child, adult), []int{100, 102}, api.ErrParts)
	wantFits(t, hall(), of(2, child, adult, child), []int{100, 102, 104}, api.ErrParts)
	wantFits(t, hall(), of(3, child, adult, child), []int{100, 102, 104}, api.ErrAlone)
}

// P13.1, M2, M3: all parties of up to three people, children and adults, with and without chairs, with each companion and
// with none, at all seats of a small plan.
func TestSmallParties(t *testing.T) {
	plan := []api.Place{place(4, 0, 1, seat), place(2, 0, 2, seat), place(9, 0, 3, wheel), place(1, 0, 5, seat)}
	ids := []int{1, 2, 3, 4, 9} // no place has the ID 3
	counts := map[api.Errno]int{}
	for n := 1; n <= 3; n++ {
		for code := range power(4*(n+1), n) {
			p := like(n, adult)
			for i := range p.People {
				kind := code / power(4*(n+1), i) % (4 * (n + 1))
				p.People[i] = api.Person{Child: kind&1 != 0, Chair: kind&2 != 0, With: kind/4 - 1}
			}
			for parts := 1; parts <= 2; parts++ {
				p.Parts = parts
				for seats := range lists(ids, min(n+1, 3)) {
					counts[checkFits(t, plan, p, seats)]++
				}
			}
			if t.Failed() {
				return
			}
		}
	}
	for _, e := range []api.Errno{api.OK, api.ErrArg, api.ErrNone, api.ErrTaken, api.ErrPlace, api.ErrApart, api.ErrParts, api.ErrAlone} {
		if counts[e] < 100 {
			t.Errorf("error %d occurred %d times", e, counts[e])
		}
	}
}

// P13.1, M1 to M3: random parties at random places, and changed ones, against the document's words.
func TestRandomSeatings(t *testing.T) {
	counts := map[string]int{}
	for _, c := range randomSeatings(1, 40000) {
		counts[fmt.Sprint(checkFits(t, c.plan, c.party, c.seats))]++
		counts[fmt.Sprint(party.Valid(c.party))]++
		if party.Valid(c.party) != isParty(c.party) {
			t.Errorf("Valid of %s: %v", text(c.party), !isParty(c.party))
		}
	}
	for _, key := range []string{"error 0", "error 1", "error 4", "error 20", "error 21", "error 22", "error 23", "error 24", "true", "false"} {
		if counts[key] < 500 {
			t.Errorf("%s occurred %d times", key, counts[key])
		}
	}
}

// P13.1: calls leave their arguments as they are, and answer the same again.
func TestArgumentsStay(t *testing.T) {
	for _, c := range randomSeatings(2, 2000) {
		plan, p, seats := slices.Clone(c.plan), copied(c.party), slices.Clone(c.seats)
		first, second := party.Prefix(plan, p, seats), party.Fits(plan, p, seats)
		if !slices.Equal(plan, c.plan) || !equal(p, c.party) || !slices.Equal(seats, c.seats) {
			t.Fatalf("%s, %v was changed to %s, %v", text(c.party), c.seats, text(p), seats)
		}
		if party.Prefix(plan, p, seats) != first || party.Fits(plan, p, seats) != second {
			t.Errorf("%s, %v: another answer at the second call", text(p), seats)
		}
	}
}
