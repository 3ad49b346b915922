package party_test

import (
	"fmt"
	"iter"
	"math"
	"math/rand/v2"
	"slices"
	"testing"

	"barcarole/api"
	"barcarole/party"
)

// The limits, written out: a test that took these from the program would follow its mistakes.
const (
	mostPeople = 12
	mostHeight = 10
	mostID     = 1000000
	mostPlaces = 300
	seat       = 1
	wheel      = 2
)

// wide are integers that a narrower type, or a sum, would wrap into a height, an index or a number of parts.
var wide = []int{1<<8 + 1, 1<<16 + 2, -1 << 31, 1<<31 - 1, 1 << 32, 1<<32 + 1, 1<<32 - 1, 1 << 62, math.MaxInt, math.MinInt, math.MinInt + 2}

// The people of most tests.
var (
	adult = api.Person{Height: 3, With: -1}
	child = api.Person{Height: 1, Child: true, With: -1}
	chair = api.Person{Height: 2, Chair: true, With: -1}
)

// with is a person who has another one as companion.
func with(p api.Person, other int) api.Person {
	p.With = other
	return p
}

// of is a party that may have as many parts as a number says.
func of(parts int, people ...api.Person) api.Party {
	return api.Party{People: people, Parts: parts}
}

// like is a party of a number of people who are all the same.
func like(n int, p api.Person) api.Party {
	return api.Party{People: slices.Repeat([]api.Person{p}, n), Parts: mostPeople}
}

func place(id, row, pos, kind int) api.Place {
	return api.Place{ID: id, Row: row, Pos: pos, Eye: api.Vec{X: 5 * pos, Y: 10 * row, Z: 2 * row}, Kind: kind}
}

// example is the plan of the document's examples.
func example() []api.Place {
	return []api.Place{place(7, 0, 3, seat), place(5, 0, 4, seat), place(9, 0, 6, wheel)}
}

// hall has 40 places, of which the IDs say the row and the position: three rows of eight seats, 100 to 107 and so on; a row
// 4 of seats two positions apart, 400 to 414; and a row 5 in which every second place is one for a wheelchair, 501 for one.
func hall() []api.Place {
	var plan []api.Place
	for row := 1; row <= 3; row++ {
		for pos := range 8 {
			plan = append(plan, place(100*row+pos, row, pos, seat))
		}
	}
	for i := range 8 {
		plan = append(plan, place(400+2*i, 4, 2*i, seat))
	}
	for pos := range 8 {
		plan = append(plan, place(500+pos, 5, pos, seat+pos%2))
	}
	return plan
}

// greatPlan has as many places as a plan may have; the ID of the place at an index is 1000 less the index.
func greatPlan() []api.Place {
	var plan []api.Place
	for i := range mostPlaces {
		plan = append(plan, place(1000-i, i/100, i%100, seat))
	}
	return plan
}

func isIn(n, least, greatest int) bool { return n >= least && n <= greatest }

// isParty is what the document requires of a party.
func isParty(p api.Party) bool {
	n := len(p.People)
	ok := n > 0 && n < 13 && p.Parts > 0 && p.Parts < 13
	for i, person := range p.People {
		others := slices.DeleteFunc([]int{-1, 0, 1, 2, 3, 4, 5, 6, 7, 8, 9, 10, 11}, func(k int) bool { return k == i || k >= n })
		ok = ok && isIn(person.Height, 0, mostHeight) && slices.Contains(others, person.With)
		if ok && person.Child && person.With >= 0 {
			ok = !p.People[person.With].Child
		}
	}
	return ok
}

// placeOf is the place with an ID, and whether there is one.
func placeOf(plan []api.Place, id int) (api.Place, bool) {
	i := slices.IndexFunc(plan, func(p api.Place) bool { return p.ID == id })
	if i < 0 {
		return api.Place{}, false
	}
	return plan[i], true
}

// areBeside is whether the places with two IDs are there, and beside each other.
func areBeside(plan []api.Place, a, b int) bool {
	p, isP := placeOf(plan, a)
	q, isQ := placeOf(plan, b)
	return isP && isQ && p.Row == q.Row && (p.Pos == q.Pos+1 || p.Pos == q.Pos-1)
}

// errorsOf are all errors of a person, in the order of the document, at the places of a valid plan.
func errorsOf(plan []api.Place, p api.Party, seats []int, i int) []api.Errno {
	var list []api.Errno
	own, isThere := placeOf(plan, seats[i])
	if !isThere {
		list = append(list, api.ErrNone)
	}
	if slices.Index(seats, seats[i]) < i {
		list = append(list, api.ErrTaken)
	}
	if isThere && (own.Kind == wheel) != p.People[i].Chair {
		list = append(list, api.ErrPlace)
	}
	for k := range i {
		if isBound(p, i, k) && !areBeside(plan, seats[i], seats[k]) {
			return append(list, api.ErrApart)
		}
	}
	return list
}

// isBound is whether one of two people is the other one's With.
func isBound(p api.Party, i, k int) bool { return p.People[i].With == k || p.People[k].With == i }

// errorOfPrefix is what the document requires of Prefix, for a valid plan.
func errorOfPrefix(plan []api.Place, p api.Party, seats []int) api.Errno {
	if !isParty(p) || len(seats) > len(p.People) {
		return api.ErrArg
	}
	for i := range seats {
		if list := errorsOf(plan, p, seats, i); len(list) > 0 {
			return list[0]
		}
	}
	return api.OK
}

// hangTogether is whether two of some places are in the same part: all positions from one to the other are among them.
func hangTogether(plan []api.Place, seats []int, a, b int) bool {
	p, _ := placeOf(plan, a)
	q, _ := placeOf(plan, b)
	if p.Row != q.Row {
		return false
	}
	between := 0
	for _, id := range seats {
		r, _ := placeOf(plan, id)
		if r.Row == p.Row && isIn(r.Pos, min(p.Pos, q.Pos), max(p.Pos, q.Pos)) {
			between++
		}
	}
	return between == max(p.Pos-q.Pos, q.Pos-p.Pos)+1
}

// errorOfFits is what the document requires of Fits, for a valid plan.
func errorOfFits(plan []api.Place, p api.Party, seats []int) api.Errno {
	if !isParty(p) || len(seats) != len(p.People) {
		return api.ErrArg
	}
	if e := errorOfPrefix(plan, p, seats); e != api.OK {
		return e
	}
	parts, isAlone := 0, false
	for i, a := range seats {
		isFirst, hasAdult := true, false
		for k, b := range seats {
			if hangTogether(plan, seats, a, b) {
				isFirst = isFirst && k >= i
				hasAdult = hasAdult || !p.People[k].Child
			}
		}
		if isFirst {
			parts++
		}
		isAlone = isAlone || !hasAdult
	}
	switch {
	case parts > p.Parts:
		return api.ErrParts
	case isAlone:
		return api.ErrAlone
	}
	return api.OK
}

func copied(p api.Party) api.Party {
	p.People = slices.Clone(p.People)
	return p
}

func equal(p, q api.Party) bool { return slices.Equal(p.People, q.People) && p.Parts == q.Parts }

// text shows what a test that fails was about: of each person the height, what they are, and their With.
func text(p api.Party) string {
	s := fmt.Sprintf("%d parts:", p.Parts)
	for _, person := range p.People {
		kind := ""
		if person.Child {
			kind += "c"
		}
		if person.Chair {
			kind += "w"
		}
		s += fmt.Sprintf(" %d%s/%d", person.Height, kind, person.With)
	}
	return s
}

// checkValid checks Valid, and that Prefix and Fits refuse a party that is not valid.
func checkValid(t *testing.T, p api.Party, want bool) {
	t.Helper()
	if got := party.Valid(p); got != want || want != isParty(p) {
		t.Errorf("Valid of %s: %v; want %v", text(p), got, want)
	}
	for _, seats := range [][]int{nil, {105}, {105, 77}, {501, 501}} {
		isRight := len(seats) <= len(p.People) && want
		if e := party.Prefix(hall(), p, seats); (e == api.ErrArg) == isRight {
			t.Errorf("Prefix of %s, %v: error %d", text(p), seats, e)
		}
		if e := party.Fits(hall(), p, seats); (e == api.ErrArg) == (isRight && len(seats) == len(p.People)) {
			t.Errorf("Fits of %s, %v: error %d", text(p), seats, e)
		}
	}
}

// checkPrefix checks Prefix for a plan that is valid, and returns its error.
func checkPrefix(t *testing.T, plan []api.Place, p api.Party, seats []int) api.Errno {
	t.Helper()
	got := party.Prefix(plan, p, seats)
	if want := errorOfPrefix(plan, p, seats); got != want {
		t.Errorf("Prefix of %s, %v: error %d; want %d", text(p), seats, got, want)
	}
	return got
}

// checkFits checks Fits, and Prefix, for a plan that is valid, and returns the error of Fits.
func checkFits(t *testing.T, plan []api.Place, p api.Party, seats []int) api.Errno {
	t.Helper()
	checkPrefix(t, plan, p, seats)
	got := party.Fits(plan, p, seats)
	if want := errorOfFits(plan, p, seats); got != want {
		t.Errorf("Fits of %s, %v: error %d; want %d", text(p), seats, got, want)
	}
	return got
}

// wantPrefix checks Prefix against an error that is written out, which the document requires according to the test.
func wantPrefix(t *testing.T, plan []api.Place, p api.Party, seats []int, want api.Errno) {
	t.Helper()
	if got := checkPrefix(t, plan, p, seats); got != want {
		t.Errorf("Prefix of %s, %v: error %d; want %d", text(p), seats, got, want)
	}
}

// wantFits is wantPrefix for Fits.
func wantFits(t *testing.T, plan []api.Place, p api.Party, seats []int, want api.Errno) {
	t.Helper()
	if got := checkFits(t, plan, p, seats); got != want {
		t.Errorf("Fits of %s, %v: error %d; want %d", text(p), seats, got, want)
	}
}

// seated is a party at places of a plan.
type seated struct {
	plan  []api.Place
	party api.Party
	seats []int
}

// randomPlan is a plan of up to about 60 places in a few rows with gaps; about one place in five is one for a wheelchair.
func randomPlan(random *rand.Rand) []api.Place {
	var plan []api.Place
	ids := random.Perm(99)
	for row := range 1 + random.IntN(4) {
		for pos := range 2 + random.IntN(14) {
			if random.IntN(5) > 0 {
				kind := seat
				if random.IntN(5) == 0 {
					kind = wheel
				}
				plan = append(plan, place(1+ids[len(plan)], row, pos, kind))
			}
		}
	}
	return plan
}

// someSeats are different places of a plan; each one is often beside an earlier one.
func someSeats(random *rand.Rand, plan []api.Place, n int) []int {
	var seats []int
	for len(seats) < n {
		i := random.IntN(len(plan))
		if len(seats) > 0 && random.IntN(3) > 0 {
			last := slices.IndexFunc(plan, func(p api.Place) bool { return p.ID == seats[random.IntN(len(seats))] })
			if last >= 0 {
				i = min(max(last+2*random.IntN(2)-1, 0), len(plan)-1)
			}
		}
		if !slices.Contains(seats, plan[i].ID) {
			seats = append(seats, plan[i].ID)
		}
	}
	return seats
}

// suitingParty is a party that keeps the rules of Prefix at the places.
func suitingParty(random *rand.Rand, plan []api.Place, seats []int) api.Party {
	p := api.Party{Parts: 1 + random.IntN(min(mostPeople, 2+len(seats)/2))}
	for _, id := range seats {
		own, _ := placeOf(plan, id)
		person := api.Person{Height: random.IntN(mostHeight + 1), Child: random.IntN(4) == 0, Chair: own.Kind == wheel, With: -1}
		p.People = append(p.People, person)
	}
	for i := range p.People {
		for k := range p.People {
			isFree := !p.People[i].Child || !p.People[k].Child
			if isFree && random.IntN(3) > 0 && areBeside(plan, seats[i], seats[k]) {
				p.People[i].With = k
			}
		}
	}
	return p
}

// spoil changes something about a seating, often so that it breaks a rule.
func spoil(random *rand.Rand, c *seated) {
	i, k := random.IntN(len(c.seats)), random.IntN(len(c.seats))
	person := &c.party.People[random.IntN(len(c.party.People))]
	switch random.IntN(8) {
	case 0:
		c.seats[i] = 101 + random.IntN(3)
	case 1:
		c.seats[i] = c.seats[k]
	case 2:
		person.Chair = !person.Chair
	case 3:
		person.With = random.IntN(len(c.party.People)+2) - 1
	case 4:
		person.Child = !person.Child
	case 5:
		c.party.Parts = random.IntN(mostPeople + 2)
	case 6:
		c.seats[i] = c.plan[random.IntN(len(c.plan))].ID
	case 7:
		c.seats[i], c.seats[k] = c.seats[k], c.seats[i]
	}
}

// randomSeatings are parties at places of random plans. All keep the rules of Prefix but for those that are spoiled, once or
// more often, which is done to one half of them.
func randomSeatings(seed uint64, count int) []seated {
	random := rand.New(rand.NewPCG(13, seed))
	var list []seated
	for len(list) < count {
		plan := randomPlan(random)
		n := 1 + random.IntN(mostPeople)
		if len(plan) < n {
			continue
		}
		seats := someSeats(random, plan, n)
		c := seated{plan, suitingParty(random, plan, seats), seats}
		if random.IntN(2) == 0 {
			for range 1 + random.IntN(3) {
				spoil(random, &c)
			}
		}
		list = append(list, c)
	}
	return list
}

func power(base, exponent int) int {
	result := 1
	for range exponent {
		result *= base
	}
	return result
}

// lists yields all lists of up to most of some IDs, each of which may be in them several times.
func lists(ids []int, most int) iter.Seq[[]int] {
	return func(yield func([]int) bool) {
		for count := range most + 1 {
			for code := range power(len(ids), count) {
				var list []int
				for range count {
					list, code = append(list, ids[code%len(ids)]), code/len(ids)
				}
				if !yield(list) {
					return
				}
			}
		}
	}
}
