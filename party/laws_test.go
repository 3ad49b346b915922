package party_test

import (
	"math/rand/v2"
	"slices"
	"testing"

	"barcarole/api"
	"barcarole/party"
)

// seatingsThatFit are parties that fit at places of random plans.
func seatingsThatFit(seed uint64, count int) []seated {
	var list []seated
	for _, c := range randomSeatings(seed, count) {
		if party.Fits(c.plan, c.party, c.seats) == api.OK {
			list = append(list, c)
		}
	}
	return list
}

// P13.2: a rule that the first seats break is broken with any seats behind them.
func TestBrokenPrefixesStayBroken(t *testing.T) {
	random := rand.New(rand.NewPCG(13, 20))
	counts := map[api.Errno]int{}
	for _, c := range randomSeatings(3, 20000) {
		if !party.Valid(c.party) {
			continue
		}
		for count := range len(c.seats) + 1 {
			e := party.Prefix(c.plan, c.party, c.seats[:count])
			if e == api.OK {
				continue
			}
			counts[e]++
			seats := slices.Clone(c.seats[:count])
			for len(seats) <= len(c.party.People) {
				if got := party.Prefix(c.plan, c.party, seats); got != e {
					t.Errorf("Prefix of %s, %v: error %d; of the first %d seats: %d", text(c.party), seats, got, count, e)
				}
				seats = append(seats, anyID(random, c.plan, seats))
			}
			break
		}
	}
	for _, e := range []api.Errno{api.ErrNone, api.ErrTaken, api.ErrPlace, api.ErrApart} {
		if counts[e] < 500 {
			t.Errorf("error %d occurred %d times", e, counts[e])
		}
	}
}

// anyID is the ID of a place, or one that is among some seats, or one that no place has.
func anyID(random *rand.Rand, plan []api.Place, seats []int) int {
	switch random.IntN(5) {
	case 0:
		return 1000 + random.IntN(5)
	case 1:
		return seats[random.IntN(len(seats))]
	default:
		return plan[random.IntN(len(plan))].ID
	}
}

// P13.2: the beginnings of seats that keep the rules keep them too.
func TestBeginningsKeepTheRules(t *testing.T) {
	whole := 0
	for _, c := range randomSeatings(4, 20000) {
		for count := len(c.seats); count >= 0; count-- {
			if party.Prefix(c.plan, c.party, c.seats[:count]) != api.OK {
				continue
			}
			if count > 3 {
				whole++
			}
			for shorter := range count {
				if e := party.Prefix(c.plan, c.party, c.seats[:shorter]); e != api.OK {
					t.Errorf("Prefix of %s, %v: error %d; with %d seats none", text(c.party), c.seats[:shorter], e, count)
				}
			}
			break
		}
	}
	if whole < 5000 {
		t.Errorf("%d beginnings of more than 3 seats", whole)
	}
}

// P13.2: all beginnings of all seats, for a party whose people are bound to earlier and to later ones.
func TestAllPrefixesOfAParty(t *testing.T) {
	plan := []api.Place{place(4, 0, 1, seat), place(2, 0, 2, seat), place(9, 0, 3, wheel), place(1, 0, 5, seat)}
	ids := []int{1, 2, 3, 4, 9}
	for _, p := range []api.Party{of(3, with(adult, 1), chair, adult), of(3, adult, with(chair, 0), with(child, 0)), of(3, with(adult, 2), with(child, 0), adult)} {
		for seats := range lists(ids, 3) {
			e := party.Prefix(plan, p, seats)
			for _, id := range ids {
				longer := append(slices.Clone(seats), id)
				got := party.Prefix(plan, p, longer)
				if len(seats) < 3 && e != api.OK && got != e || got == api.OK && e != api.OK {
					t.Errorf("Prefix of %s, %v: error %d; with %d behind them %d", text(p), seats, e, id, got)
				}
			}
		}
	}
}

// P13.3: what Fits promises of a seating that fits.
func TestWhatFitsKeepsTheRules(t *testing.T) {
	chairs, companions, divided := 0, 0, 0
	for _, c := range seatingsThatFit(5, 30000) {
		for i, id := range c.seats {
			own, isThere := placeOf(c.plan, id)
			if !isThere || slices.Contains(c.seats[:i], id) {
				t.Fatalf("%v: no place, or one that is taken: %d", c.seats, id)
			}
			person := c.party.People[i]
			if person.Chair != (own.Kind == wheel) {
				t.Errorf("%s, %v: person %d sits at a place of kind %d", text(c.party), c.seats, i, own.Kind)
			}
			if person.Chair {
				chairs++
			}
			if person.With >= 0 {
				companions++
				if !areBeside(c.plan, id, c.seats[person.With]) {
					t.Errorf("%s, %v: person %d sits apart", text(c.party), c.seats, i)
				}
			}
			if !slices.ContainsFunc(c.seats, func(other int) bool {
				isGrownUp := !c.party.People[slices.Index(c.seats, other)].Child
				return isGrownUp && hangTogether(c.plan, c.seats, id, other)
			}) {
				t.Errorf("%s, %v: person %d sits among children alone", text(c.party), c.seats, i)
			}
			if person.Child && !hangTogether(c.plan, c.seats, id, c.seats[0]) {
				divided++
			}
		}
	}
	if chairs < 500 || companions < 1000 || divided < 500 {
		t.Errorf("%d chairs, %d companions, %d children apart from person 0", chairs, companions, divided)
	}
}

// P13.4: a seating that fits still fits if something less is asked for.
func TestLessStrictStillFits(t *testing.T) {
	freed, grown := 0, 0
	for _, c := range seatingsThatFit(6, 20000) {
		for parts := c.party.Parts + 1; parts <= mostPeople; parts++ {
			p := copied(c.party)
			p.Parts = parts
			wantFits(t, c.plan, p, c.seats, api.OK)
		}
		loose := copied(c.party)
		for i, person := range c.party.People {
			if person.With >= 0 {
				p := copied(c.party)
				p.People[i].With, loose.People[i].With = -1, -1
				wantFits(t, c.plan, p, c.seats, api.OK)
				wantFits(t, c.plan, loose, c.seats, api.OK)
				freed++
			}
			if person.Child {
				p := copied(c.party)
				p.People[i].Child, loose.People[i].Child = false, false
				wantFits(t, c.plan, p, c.seats, api.OK)
				wantFits(t, c.plan, loose, c.seats, api.OK)
				grown++
			}
		}
	}
	if freed < 1000 || grown < 1000 {
		t.Errorf("%d companions taken away, %d children who became adults", freed, grown)
	}
}

// exchanged is a seating in which two people have changed their indices, with their seats.
func exchanged(c seated, i, k int) seated {
	p, seats := copied(c.party), slices.Clone(c.seats)
	p.People[i], p.People[k] = p.People[k], p.People[i]
	seats[i], seats[k] = seats[k], seats[i]
	for j, person := range p.People {
		switch person.With {
		case i:
			p.People[j].With = k
		case k:
			p.People[j].With = i
		}
	}
	return seated{c.plan, p, seats}
}

// P13.5: whether a seating fits does not depend on the numbers of the people.
func TestNumbersDoNotMatter(t *testing.T) {
	fit, unfit, bound := 0, 0, 0
	for _, c := range randomSeatings(7, 3000) {
		e := party.Fits(c.plan, c.party, c.seats)
		for i := range c.party.People {
			for k := range i {
				d := exchanged(c, i, k)
				got := checkFits(t, d.plan, d.party, d.seats)
				if (got == api.OK) != (e == api.OK) {
					t.Errorf("Fits of %s, %v: error %d; with %d and %d exchanged: %s, %v: %d", text(c.party), c.seats, e, i, k, text(d.party), d.seats, got)
				}
				if e == api.OK {
					fit++
				} else {
					unfit++
				}
				if c.party.People[i].With == k {
					bound++
				}
			}
		}
	}
	if fit < 5000 || unfit < 5000 || bound < 500 {
		t.Errorf("%d fit, %d do not, %d bound to each other", fit, unfit, bound)
	}
}

// P13.6: people who differ in their heights alone, and whom nobody is bound to, may exchange their seats.
func TestAlikePeopleExchangeSeats(t *testing.T) {
	fit, unfit, prefixes := 0, 0, 0
	for _, c := range randomSeatings(8, 20000) {
		e := party.Fits(c.plan, c.party, c.seats)
		for i := range c.party.People {
			for k := range i {
				p, q := c.party.People[i], c.party.People[k]
				p.Height = q.Height
				areFree := p.With == -1 && !slices.ContainsFunc(c.party.People, func(r api.Person) bool { return r.With == i || r.With == k })
				if p != q || !areFree {
					continue
				}
				seats := slices.Clone(c.seats)
				seats[i], seats[k] = seats[k], seats[i]
				if got := checkFits(t, c.plan, c.party, seats); (got == api.OK) != (e == api.OK) {
					t.Errorf("Fits of %s, %v: error %d; with the seats of %d and %d exchanged %d", text(c.party), c.seats, e, i, k, got)
				}
				if party.Prefix(c.plan, c.party, c.seats[:i+1]) == api.OK {
					wantPrefix(t, c.plan, c.party, seats[:i+1], api.OK)
					prefixes++
				}
				if e == api.OK {
					fit++
				} else {
					unfit++
				}
			}
		}
	}
	if fit < 500 || unfit < 500 || prefixes < 500 {
		t.Errorf("%d fit, %d do not; %d prefixes", fit, unfit, prefixes)
	}
}

// P13.6: the heights play no part in what fits.
func TestHeightsDoNotMatter(t *testing.T) {
	for _, c := range randomSeatings(9, 2000) {
		e := party.Fits(c.plan, c.party, c.seats)
		for h := 0; h <= mostHeight; h += 5 {
			p := copied(c.party)
			for i := range p.People {
				p.People[i].Height = h
			}
			wantFits(t, c.plan, p, c.seats, e)
		}
	}
}
