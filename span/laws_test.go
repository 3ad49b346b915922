package span_test

import (
	"slices"
	"testing"

	"barcarole/api"
	"barcarole/span"
)

// checkSets compares what an operation's result has with what its lists have.
func checkSets(t *testing.T, o operation, a, b []api.Span) bool {
	t.Helper()
	list, e := o.call(a, b)
	if e != api.OK {
		return false
	}
	for _, minute := range sample(a, b, list) {
		inA, inB := has(t, a, minute), has(t, b, minute)
		if got := has(t, list, minute); got != o.takes(inA, inB) {
			t.Errorf("%s(%v, %v): Has(%v, %d): %v", o.name, a, b, list, minute, got)
			return true
		}
	}
	return true
}

// P3.2.
func TestSets(t *testing.T) {
	for _, from := range windows(5) {
		for _, a := range smallSets(from, 5) {
			for _, b := range smallSets(from, 5) {
				for _, o := range operations {
					if !checkSets(t, o, a.list(), b.list()) {
						t.Errorf("%s(%v, %v) fails", o.name, a.list(), b.list())
					}
				}
			}
		}
	}
	lists := someLists()
	for _, o := range operations {
		held := 0
		for i, a := range lists {
			for _, k := range []int{i, i + 1, i + 3, i + 14, i + 25} {
				if checkSets(t, o, a, lists[k%len(lists)]) {
					held++
				}
			}
		}
		if held < 100 {
			t.Errorf("only %d results of %s", held, o.name)
		}
	}
}

// pairs calls visit with pairs of lists, small and wide ones.
func pairs(visit func(a, b []api.Span)) {
	for _, from := range windows(6) {
		for _, a := range smallSets(from, 6) {
			for _, b := range smallSets(from, 6) {
				visit(a.list(), b.list())
			}
		}
	}
	lists := someLists()
	for _, a := range lists {
		for _, b := range lists {
			visit(a, b)
		}
	}
}

// P3.3.
func TestLengths(t *testing.T) {
	heldBoth, heldOne := 0, 0
	pairs(func(a, b []api.Span) {
		u, eu := span.Union(a, b)
		c, ec := span.Common(a, b)
		m, em := span.Minus(a, b)
		if eu == api.OK && ec == api.OK {
			heldBoth++
			if length(t, u)+length(t, c) != length(t, a)+length(t, b) {
				t.Errorf("%v and %v: union %v, common %v", a, b, u, c)
			}
		}
		if em == api.OK && ec == api.OK {
			heldOne++
			if length(t, m)+length(t, c) != length(t, a) {
				t.Errorf("%v and %v: minus %v, common %v", a, b, m, c)
			}
		}
	})
	if heldBoth < 13000 || heldOne < 13000 {
		t.Errorf("only %d and %d pairs", heldBoth, heldOne)
	}
}

// P3.4: be the result a list or an error.
func TestCommutative(t *testing.T) {
	pairs(func(a, b []api.Span) {
		for _, o := range operations[:2] {
			ab, e := o.call(a, b)
			ba, f := o.call(b, a)
			if !slices.Equal(ab, ba) || e != f {
				t.Errorf("%s(%v, %v): %v, %v; the other way %v, %v", o.name, a, b, ab, e, ba, f)
			}
		}
	})
}

// P3.4.
func TestAbsorbing(t *testing.T) {
	held := 0
	pairs(func(a, b []api.Span) {
		if u, e := span.Union(a, b); e == api.OK {
			held++
			if l := common(t, a, u); !slices.Equal(l, a) {
				t.Errorf("%v, %v: Common with Union: %v", a, b, l)
			}
		}
		if c, e := span.Common(a, b); e == api.OK {
			held++
			if l := union(t, a, c); !slices.Equal(l, a) {
				t.Errorf("%v, %v: Union with Common: %v", a, b, l)
			}
		}
	})
	if held < 26000 {
		t.Errorf("only %d results", held)
	}
}

// nested is one of two operations on what another one returns, with the error of either.
func nested(outer, inner operation, a, b, c []api.Span) ([]api.Span, api.Errno) {
	list, e := inner.call(a, b)
	if e != api.OK {
		return nil, e
	}
	return outer.call(list, c)
}

// checkSame finds whether two ways to compute a list differ, where both lead to one.
func checkSame(t *testing.T, name string, l, m []api.Span, e, f api.Errno) bool {
	t.Helper()
	if e != api.OK || f != api.OK {
		return false
	}
	if !slices.Equal(l, m) {
		t.Errorf("%s: %v and %v", name, l, m)
	}
	return true
}

// checkTriple compares what three lists lead to in either order of two operations.
func checkTriple(t *testing.T, a, b, c []api.Span) int {
	t.Helper()
	held := 0
	for i, o := range operations[:2] {
		left, e := nested(o, o, a, b, c)
		right, f := nested(o, o, b, c, a) // the inner one on the right: both are commutative
		if checkSame(t, o.name+" is not associative", left, right, e, f) {
			held++
		}
		other := operations[1-i]
		left, e = nested(o, other, b, c, a)
		ab, g := o.call(a, b)
		ac, h := o.call(a, c)
		if g != api.OK || h != api.OK {
			continue
		}
		right, f = other.call(ab, ac)
		if checkSame(t, o.name+" does not distribute", left, right, e, f) {
			held++
		}
	}
	return held
}

// P3.4: associative, and distributing over each other.
func TestTriples(t *testing.T) {
	for _, from := range windows(4) {
		for _, a := range smallSets(from, 4) {
			for _, b := range smallSets(from, 4) {
				for _, c := range smallSets(from, 4) {
					if held := checkTriple(t, a.list(), b.list(), c.list()); held != 4 {
						t.Errorf("%v, %v, %v: %d of 4 laws", a.list(), b.list(), c.list(), held)
					}
				}
			}
		}
	}
	held, lists := 0, someLists()
	for i, a := range lists {
		for k, b := range lists[i:] {
			held += checkTriple(t, a, b, lists[(5*i+3*k)%len(lists)])
		}
	}
	if held < 2000 {
		t.Errorf("only %d laws of wide lists", held)
	}
}

// checkParts divides a list at a minute.
func checkParts(t *testing.T, l []api.Span, minute int) {
	t.Helper()
	before, from := []api.Span(nil), spans(minute, behind)
	if minute > 0 {
		before = spans(0, minute)
	}
	left, right := common(t, l, before), common(t, l, from)
	if !slices.Equal(minus(t, l, from), left) || !slices.Equal(minus(t, l, before), right) {
		t.Errorf("%v before and from %d: Common and Minus differ", l, minute)
	}
	if both := common(t, left, right); len(both) != 0 {
		t.Errorf("%v before and from %d: both have %v", l, minute, both)
	}
	if whole := union(t, left, right); !slices.Equal(whole, l) {
		t.Errorf("%v before and from %d: the union is %v", l, minute, whole)
	}
	if len(left) > 0 && left[len(left)-1].Until > minute || len(right) > 0 && right[0].From < minute {
		t.Errorf("%v before and from %d: %v and %v", l, minute, left, right)
	}
}

// P3.5.
func TestParts(t *testing.T) {
	for _, from := range windows(8) {
		for _, m := range smallSets(from, 8) {
			for minute := max(0, from-2); minute < min(from+10, behind); minute++ {
				checkParts(t, m.list(), minute)
			}
		}
	}
	for _, l := range someLists() {
		for _, minute := range sample(l) {
			checkParts(t, l, minute)
		}
	}
}

// shifts are those by which a list stays within the minutes: some, and the greatest ones.
func shifts(l []api.Span) []int {
	if len(l) == 0 {
		return []int{-600000, -1, 0, 1, 600000}
	}
	down, up := -l[0].From, behind-l[len(l)-1].Until
	return []int{down, down / 2, max(down, -1), 0, min(up, 1), min(up, 17), up / 2, max(0, up-1), up}
}

// checkShift compares a list with the list that is shifted.
func checkShift(t *testing.T, l []api.Span, by int) {
	t.Helper()
	moved := shift(t, l, by)
	if length(t, moved) != length(t, l) {
		t.Errorf("Shift(%v, %d): %v", l, by, moved)
	}
	if back := shift(t, moved, -by); !slices.Equal(back, l) {
		t.Errorf("Shift(%v, %d): %v, and back: %v", l, by, moved, back)
	}
	for _, minute := range sample(l) {
		if to := minute + by; 0 <= to && to <= api.MaxMinute && has(t, moved, to) != has(t, l, minute) {
			t.Errorf("Shift(%v, %d): %v is wrong about %d", l, by, moved, to)
			return
		}
	}
}

// P3.6: the minutes, their number, and back.
func TestShifted(t *testing.T) {
	for _, from := range windows(7) {
		for _, m := range smallSets(from, 7) {
			for _, by := range shifts(m.list()) {
				checkShift(t, m.list(), by)
			}
		}
	}
	for _, l := range someLists() {
		for _, by := range shifts(l) {
			checkShift(t, l, by)
		}
	}
}

// P3.6: shifts and unions in either order.
func TestShiftedUnion(t *testing.T) {
	held := 0
	pairs(func(a, b []api.Span) {
		u, e := span.Union(a, b)
		if e != api.OK {
			return
		}
		for _, by := range shifts(u) {
			held++
			if both := union(t, shift(t, a, by), shift(t, b, by)); !slices.Equal(both, shift(t, u, by)) {
				t.Errorf("%v, %v, by %d: %v", a, b, by, both)
			}
		}
	})
	if held < 100000 {
		t.Errorf("only %d unions", held)
	}
}

// P3.7: results are valid.
func TestResultsAreValid(t *testing.T) {
	held := 0
	check := func(l []api.Span, e api.Errno) {
		if e == api.OK {
			held++
		}
		if !span.Valid(l) || !valid(l) {
			t.Errorf("not valid: %v", l)
		}
	}
	pairs(func(a, b []api.Span) {
		for _, o := range operations {
			check(o.call(a, b))
		}
	})
	for _, l := range someLists() {
		for _, by := range []int{-600000, -301, -300, -7, -1, 0, 1, 2, 300, 301, 600000} {
			check(span.Shift(l, by))
		}
	}
	if held < 40000 {
		t.Errorf("only %d results", held)
	}
}

// P3.7: lists that have the same minutes are equal, and equal lists have the same.
func TestOneList(t *testing.T) {
	for _, from := range windows(6) {
		for _, m := range smallSets(from, 6) {
			for _, n := range smallSets(from, 6) {
				a, b := m.list(), n.list()
				same := true
				for minute := from; minute < from+6; minute++ {
					same = same && has(t, a, minute) == has(t, b, minute)
				}
				if same != slices.Equal(a, b) || same != (len(minus(t, a, b))+len(minus(t, b, a)) == 0) {
					t.Errorf("%v and %v: the same: %v", a, b, same)
				}
			}
		}
	}
}

// P3.7: a set is one list, in whatever order and out of whatever parts it was put together.
func TestOneListOfParts(t *testing.T) {
	for _, m := range smallSets(3, 6) {
		want := m.list()
		for turn := range 6 {
			for _, back := range []int{1, 5} {
				var list []api.Span
				for i := range 6 {
					k := (turn + i*back) % 6
					if m.has[k] {
						list = union(t, list, spans(3+k, 4+k))
					}
				}
				rest := spans(3, 9)
				for i := range 6 {
					k := (turn + i*back) % 6
					if !m.has[k] {
						rest = minus(t, rest, spans(3+k, 4+k))
					}
				}
				if !slices.Equal(list, want) || !slices.Equal(rest, want) {
					t.Errorf("%v: put together %v, cut out %v", want, list, rest)
				}
			}
		}
	}
}
