package tiers_test

import (
	"fmt"
	"math"
	"math/rand/v2"
	"slices"
	"testing"

	"barcarole/api"
	"barcarole/tiers"
)

// The limits, written out: a test that took these from the program would follow its mistakes.
const (
	most       = 2000
	mostID     = 1000000
	mostPlaces = 300
	mostRow    = 99
	mostHeight = 10
	seat       = 1
	wheel      = 2
)

// wide are integers that a narrower type, a sum or a product would wrap into an ID, a row, a kind or a coordinate.
var wide = []int{1<<8 + 1, 1<<16 + 2, -1 << 31, 1 << 32, 1<<32 + 1, 2 - 1<<32, 1 << 62, math.MaxInt, math.MinInt, math.MinInt + 2}

func vec(x, y, z int) api.Vec { return api.Vec{X: x, Y: y, Z: z} }

// place is a seat; the eyes of two places are at least 4 apart.
func place(id, row, pos int) api.Place {
	return api.Place{ID: id, Row: row, Pos: pos, Eye: vec(6*pos, 9*row, 4*row), Kind: seat}
}

// at is a seat with an eye at a point.
func at(eye api.Vec) api.Place { return api.Place{ID: 7, Row: 1, Pos: 2, Eye: eye, Kind: seat} }

// example is the plan of the document's examples.
func example() []api.Place {
	plan := []api.Place{place(7, 0, 3), place(5, 0, 4), place(9, 0, 6), place(2, 1, 4)}
	plan[0].Eye = vec(0, 0, 10)
	return plan
}

// wholeRows has as many places as a number says, the first ones of all; their IDs fall.
func wholeRows(n int) []api.Place {
	var plan []api.Place
	for i := range n {
		plan = append(plan, place(n-i, i/100, i%100))
	}
	return plan
}

// rowOf has places of one row at some positions, whose IDs are 100 and more.
func rowOf(row int, positions ...int) []api.Place {
	var plan []api.Place
	for _, pos := range positions {
		plan = append(plan, place(100*(row+1)+pos, row, pos))
	}
	return plan
}

func idsOf(plan []api.Place) []int {
	var ids []int
	for _, p := range plan {
		ids = append(ids, p.ID)
	}
	return ids
}

// text shows what a test that fails was about, of long lists only the first elements.
func text[T any](list []T) string {
	if len(list) > 12 {
		return fmt.Sprintf("%v .. (%d)", list[:12], len(list))
	}
	return fmt.Sprintf("%v", list)
}

// isIn is whether a number is one of those from least to greatest.
func isIn(n, least, greatest int) bool { return n >= least && n <= greatest }

func isVector(v api.Vec) bool {
	return isIn(v.X, -most, most) && isIn(v.Y, -most, most) && isIn(v.Z, -most, most)
}

// isPlan is what the document requires of a plan; it compares all pairs of places.
func isPlan(plan []api.Place) bool {
	for i, p := range plan {
		if !isIn(p.ID, 1, mostID) || !isIn(p.Row, 0, mostRow) || !isIn(p.Pos, 0, mostRow) || !isIn(p.Kind, seat, wheel) || !isVector(p.Eye) {
			return false
		}
		for _, q := range plan[:i] {
			if p.ID == q.ID || 100*p.Row+p.Pos <= 100*q.Row+q.Pos {
				return false
			}
		}
	}
	return len(plan) <= mostPlaces
}

func areBeside(p, q api.Place) bool {
	return p.Row == q.Row && (p.Pos == q.Pos+1 || p.Pos == q.Pos-1)
}

// indexOf is the index of the place with an ID, or -1.
func indexOf(plan []api.Place, id int) int {
	return slices.IndexFunc(plan, func(p api.Place) bool { return p.ID == id })
}

// errorOf is the error that the document requires for a plan and IDs that may be equal.
func errorOf(plan []api.Place, ids ...int) api.Errno {
	if !isPlan(plan) {
		return api.ErrArg
	}
	for _, id := range ids {
		if indexOf(plan, id) < 0 {
			return api.ErrNone
		}
	}
	return api.OK
}

// errorOfParts is the error that the document requires of Parts.
func errorOfParts(plan []api.Place, ids []int) api.Errno {
	if len(ids) > mostPlaces {
		return api.ErrLimit
	}
	if e := errorOf(plan, ids...); e != api.OK {
		return e
	}
	for i, id := range ids {
		if slices.Contains(ids[:i], id) {
			return api.ErrArg
		}
	}
	return api.OK
}

// partsOf goes from each place that was not reached before to all that can be reached over places beside each other.
func partsOf(plan []api.Place, ids []int) [][]int {
	var list [][]int
	var reached, part []int
	var visit func(p api.Place)
	visit = func(p api.Place) {
		reached, part = append(reached, p.ID), append(part, p.ID)
		for _, q := range plan {
			if areBeside(p, q) && slices.Contains(ids, q.ID) && !slices.Contains(reached, q.ID) {
				visit(q)
			}
		}
	}
	for _, p := range plan {
		if !slices.Contains(ids, p.ID) || slices.Contains(reached, p.ID) {
			continue
		}
		part = nil
		visit(p)
		slices.SortFunc(part, func(a, b int) int { return indexOf(plan, a) - indexOf(plan, b) })
		list = append(list, part)
	}
	return list
}

func equalParts(a, b [][]int) bool { return slices.EqualFunc(a, b, slices.Equal[[]int]) }

// headOf is the head that the document requires, and whether it is a body.
func headOf(eye api.Vec, height int) (api.Body, bool) {
	b := api.Body{Low: eye.Z - 2, High: eye.Z + height}
	isBody := b.Low >= -most && b.High <= most
	for _, way := range [][2]int{{-2, -2}, {2, -2}, {2, 2}, {-2, 2}} {
		corner := api.Point{X: eye.X + way[0], Y: eye.Y + way[1]}
		b.Base = append(b.Base, corner)
		isBody = isBody && isIn(corner.X, -most, most) && isIn(corner.Y, -most, most)
	}
	return b, isBody
}

// errorOfHead is the error that the document requires of Head.
func errorOfHead(eye api.Vec, height int) api.Errno {
	if !isVector(eye) || height < 0 || height > mostHeight {
		return api.ErrArg
	}
	if _, isBody := headOf(eye, height); !isBody {
		return api.ErrRange
	}
	return api.OK
}

// errorOfHeads is the error that the document requires of Heads.
func errorOfHeads(plan []api.Place, ids, heights []int) api.Errno {
	if e := errorOfParts(plan, ids); e != api.OK {
		return e
	}
	if len(ids) != len(heights) {
		return api.ErrArg
	}
	for i, id := range ids {
		if e := errorOfHead(plan[indexOf(plan, id)].Eye, heights[i]); e != api.OK {
			return e
		}
	}
	return api.OK
}

func equalBodies(a, b api.Body) bool {
	return a.Low == b.Low && a.High == b.High && slices.Equal(a.Base, b.Base)
}

func checkValid(t *testing.T, plan []api.Place, want bool) {
	t.Helper()
	if isPlan(plan) != want || tiers.Valid(plan) != want {
		t.Errorf("Valid of %s: %v; want %v", text(plan), tiers.Valid(plan), want)
	}
}

func checkFind(t *testing.T, plan []api.Place, id int) {
	t.Helper()
	want, wrong := 0, errorOf(plan, id)
	if wrong == api.OK {
		want = indexOf(plan, id)
	}
	if got, e := tiers.Find(plan, id); got != want || e != wrong {
		t.Errorf("Find of %d in %s: %d, %v; want %d, %v", id, text(plan), got, e, want, wrong)
	}
}

func checkBeside(t *testing.T, plan []api.Place, a, b int) {
	t.Helper()
	wrong := errorOf(plan, a, b)
	want := wrong == api.OK && areBeside(plan[indexOf(plan, a)], plan[indexOf(plan, b)])
	if got, e := tiers.Beside(plan, a, b); got != want || e != wrong {
		t.Errorf("Beside of %d and %d in %s: %v, %v; want %v, %v", a, b, text(plan), got, e, want, wrong)
	}
}

func checkParts(t *testing.T, plan []api.Place, ids []int) {
	t.Helper()
	var want [][]int
	wrong := errorOfParts(plan, ids)
	if wrong == api.OK {
		want = partsOf(plan, ids)
	}
	if got, e := tiers.Parts(plan, ids); !equalParts(got, want) || e != wrong {
		t.Errorf("Parts of %s in %s: %v, %v; want %v, %v", text(ids), text(plan), got, e, want, wrong)
	}
}

func checkHead(t *testing.T, p api.Place, height int) {
	t.Helper()
	var want api.Body
	wrong := errorOfHead(p.Eye, height)
	if wrong == api.OK {
		want, _ = headOf(p.Eye, height)
	}
	if got, e := tiers.Head(p, height); !equalBodies(got, want) || e != wrong {
		t.Errorf("Head of %v, height %d: %v, %v; want %v, %v", p, height, got, e, want, wrong)
	}
}

func checkHeads(t *testing.T, plan []api.Place, ids, heights []int) {
	t.Helper()
	var want []api.Body
	wrong := errorOfHeads(plan, ids, heights)
	if wrong == api.OK {
		for i, id := range ids {
			b, _ := headOf(plan[indexOf(plan, id)].Eye, heights[i])
			want = append(want, b)
		}
	}
	if got, e := tiers.Heads(plan, ids, heights); !slices.EqualFunc(got, want, equalBodies) || e != wrong {
		t.Errorf("Heads of %s in %s, heights %s: %s, %v; want %s, %v", text(ids), text(plan), text(heights), text(got), e, text(want), wrong)
	}
}

// partsIn are the parts of IDs that suit a plan.
func partsIn(t *testing.T, plan []api.Place, ids []int) [][]int {
	t.Helper()
	list, e := tiers.Parts(plan, ids)
	if e != api.OK {
		t.Errorf("Parts of %s in %s: %v", text(ids), text(plan), e)
	}
	return list
}

// isBeside is whether two places of a plan are beside each other.
func isBeside(t *testing.T, plan []api.Place, a, b int) bool {
	t.Helper()
	is, e := tiers.Beside(plan, a, b)
	if e != api.OK {
		t.Errorf("Beside of %d and %d in %s: %v", a, b, text(plan), e)
	}
	return is
}

// headAt is a head that is a body.
func headAt(t *testing.T, eye api.Vec, height int) api.Body {
	t.Helper()
	b, e := tiers.Head(at(eye), height)
	if e != api.OK {
		t.Errorf("Head at %v, height %d: %v", eye, height, e)
	}
	return b
}

// randomPlan has places of some rows that begin at 0 or end at 99, each of them left out now and then.
func randomPlan(random *rand.Rand, rows, width int) []api.Place {
	var plan []api.Place
	first := []int{0, 100 - rows}[random.IntN(2)]
	start := []int{0, 100 - width}[random.IntN(2)]
	for row := first; row < first+rows; row++ {
		for pos := start; pos < start+width; pos++ {
			if random.IntN(5) > 0 {
				plan = append(plan, place(0, row, pos))
			}
		}
	}
	plan = plan[:min(len(plan), mostPlaces)]
	span := []int{len(plan), 2 * len(plan), mostID}[random.IntN(3)]
	ids := random.Perm(span)
	for i := range plan {
		plan[i].ID = ids[i] + 1
		plan[i].Kind = seat + random.IntN(2)
		plan[i].Eye = randomEye(random)
	}
	return plan
}

// randomEye has a head that is a body, whatever its height.
func randomEye(random *rand.Rand) api.Vec {
	any := func() int { return random.IntN(2*most-11) - most + 2 }
	return vec(any(), any(), any())
}

// randomPlans are of all sizes.
func randomPlans() []([]api.Place) {
	random := rand.New(rand.NewPCG(12, 1))
	plans := [][]api.Place{nil, {}, example(), wholeRows(1), wholeRows(mostPlaces)}
	for range 40 {
		plans = append(plans, randomPlan(random, 1+random.IntN(4), 1+random.IntN(12)))
	}
	for range 6 {
		plans = append(plans, randomPlan(random, 1+random.IntN(5), 100), randomPlan(random, 100, 1+random.IntN(4)))
	}
	return plans
}

// someOf are a number of the IDs of a plan, in any order.
func someOf(random *rand.Rand, plan []api.Place, n int) []int {
	ids := idsOf(plan)
	random.Shuffle(len(ids), func(i, j int) { ids[i], ids[j] = ids[j], ids[i] })
	return ids[:n]
}
