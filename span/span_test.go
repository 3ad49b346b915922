package span_test

import (
	"math"
	"slices"
	"testing"

	"barcarole/api"
	"barcarole/span"
)

// valid is what the document requires of Valid, condition by condition.
func valid(l []api.Span) bool {
	for i, s := range l {
		if !(s.From < s.Until) || !(s.From >= 0) || !(s.Until <= 600001) {
			return false
		}
		if i < len(l)-1 && !(s.Until < l[i+1].From) {
			return false
		}
	}
	return len(l) <= 1000
}

// P3.1, C1: all short lists of few numbers, about the first minute and about the last one.
func TestValidShort(t *testing.T) {
	held := 0
	for _, middle := range []int{1, 4, 300000, behind - 4, behind - 1} {
		var check func(l []api.Span, more int)
		check = func(l []api.Span, more int) {
			if got, want := span.Valid(l), valid(l); got != want {
				t.Errorf("Valid(%v): %v", l, got)
			} else if want {
				held++
			}
			if more == 0 {
				return
			}
			for from := middle - 3; from <= middle+3; from++ {
				for until := middle - 3; until <= middle+3; until++ {
					check(append(slices.Clone(l), api.Span{From: from, Until: until}), more-1)
				}
			}
		}
		check(nil, 3)
	}
	if held < 200 {
		t.Errorf("only %d lists were valid", held)
	}
}

// P3.1, C1.
func TestValid(t *testing.T) {
	for _, l := range someLists() {
		if !span.Valid(l) {
			t.Errorf("not valid: %v", l)
		}
	}
	for _, l := range notLists() {
		if span.Valid(l) {
			t.Errorf("valid: %.200v", l)
		}
	}
}

// P3.1, C1: any one span that is wrong, wherever it stands among 1000.
func TestValidWhole(t *testing.T) {
	for _, i := range []int{0, 1, 2, 499, 500, 997, 998, 999} {
		for _, wrong := range []api.Span{{From: 2*i + 1, Until: 2*i + 1}, {From: 2*i + 1, Until: 2 * i}, {From: -1, Until: 2*i + 2}, {From: 2*i + 1, Until: behind + 1}, {From: 2 * i, Until: 2*i + 3}, {From: 2*i - 1, Until: 2*i + 2}} {
			l := row(most, 1, 1, 1)
			if !span.Valid(l) {
				t.Fatal("1000 spans are not valid")
			}
			l[i] = wrong
			if got, want := span.Valid(l), valid(l); got != want {
				t.Errorf("Valid with span %d %v: %v", i, wrong, got)
			}
		}
	}
}

// P3.1, C2 to C4: the examples, spans that touch, empty lists, and the first and the last minute.
func TestOperationCases(t *testing.T) {
	a, b := spans(0, 10, 20, 30), spans(5, 20, 25, 40)
	last := behind - 1
	for i, c := range []struct{ a, b, union, common, minus []api.Span }{
		{a, b, spans(0, 40), spans(5, 10, 25, 30), spans(0, 5, 20, 25)},
		{b, a, spans(0, 40), spans(5, 10, 25, 30), spans(10, 20, 30, 40)},
		{nil, nil, nil, nil, nil},
		{a, nil, a, nil, a},
		{nil, a, a, nil, nil},
		{a, a, a, a, nil},
		{spans(0, 10), spans(10, 20), spans(0, 20), nil, spans(0, 10)},
		{spans(10, 20), spans(0, 10), spans(0, 20), nil, spans(10, 20)},
		{spans(0, 10), spans(11, 20), spans(0, 10, 11, 20), nil, spans(0, 10)},
		{spans(0, 10, 20, 30), spans(10, 20), spans(0, 30), nil, spans(0, 10, 20, 30)},
		{spans(0, 30), spans(10, 20), spans(0, 30), spans(10, 20), spans(0, 10, 20, 30)},
		{spans(0, 30), spans(0, 20), spans(0, 30), spans(0, 20), spans(20, 30)},
		{spans(0, 30), spans(20, 30), spans(0, 30), spans(20, 30), spans(0, 20)},
		{spans(10, 20), spans(0, 30), spans(0, 30), spans(10, 20), nil},
		{spans(0, 1, 2, 3, 4, 5), spans(1, 2, 3, 4), spans(0, 5), nil, spans(0, 1, 2, 3, 4, 5)},
		{spans(0, 1), spans(last, behind), spans(0, 1, last, behind), nil, spans(0, 1)},
		{spans(0, behind), spans(0, 1, last, behind), spans(0, behind), spans(0, 1, last, behind), spans(1, last)},
		{spans(0, behind), spans(1, last), spans(0, behind), spans(1, last), spans(0, 1, last, behind)},
		{spans(0, last), spans(last, behind), spans(0, behind), nil, spans(0, last)},
		{spans(0, behind), spans(0, behind), spans(0, behind), spans(0, behind), nil},
	} {
		for k, want := range [][]api.Span{c.union, c.common, c.minus} {
			o := operations[k]
			if list, e := o.call(c.a, c.b); !slices.Equal(list, want) || e != api.OK {
				t.Errorf("case %d: %s(%v, %v): %v, %v; want %v", i, o.name, c.a, c.b, list, e, want)
			}
		}
	}
}

// checkOperation compares an operation with the sets of minutes.
func checkOperation(t *testing.T, o operation, a, b minutes) api.Errno {
	t.Helper()
	want, wrong := a.with(o, b).list(), api.OK
	if len(want) > most {
		want, wrong = nil, api.ErrLimit
	}
	list, e := o.call(a.list(), b.list())
	if !slices.Equal(list, want) || e != wrong {
		t.Errorf("%s(%v, %v): %v, %v; want %v, %v", o.name, a.list(), b.list(), list, e, want, wrong)
	}
	return e
}

// P3.1, C2 to C4: all pairs of sets of a few minutes.
func TestOperationsSmall(t *testing.T) {
	for _, from := range windows(6) {
		for _, a := range smallSets(from, 6) {
			for _, b := range smallSets(from, 6) {
				for _, o := range operations {
					checkOperation(t, o, a, b)
				}
			}
		}
	}
}

// P3.1, C2 to C4: pairs of many spans, with too many in the result and without.
func TestOperationsWide(t *testing.T) {
	for _, o := range operations {
		came := map[api.Errno]int{}
		for _, a := range wideSets() {
			for _, b := range wideSets() {
				came[checkOperation(t, o, a, b)]++
			}
		}
		if came[api.OK] < 100 || came[api.ErrLimit] < 20 {
			t.Errorf("%s: %v", o.name, came)
		}
	}
}

// P3.1, C2 to C4: results of exactly 1000 spans, of one more, and of as many as there can be.
func TestLimit(t *testing.T) {
	tops := row(most, 0, 300, 300) // up to 599700
	for i, c := range []struct {
		o     operation
		a, b  []api.Span
		count int
		e     api.Errno
	}{
		{operations[0], row(500, 0, 1, 3), row(500, 2, 1, 3), 1000, api.OK},
		{operations[0], row(501, 0, 1, 3), row(500, 2, 1, 3), 0, api.ErrLimit},
		{operations[0], row(500, 0, 1, 3), row(501, 2, 1, 3), 0, api.ErrLimit},
		{operations[0], row(most, 0, 1, 1), nil, 1000, api.OK},
		{operations[0], nil, row(most, 0, 1, 1), 1000, api.OK},
		{operations[0], row(most, 0, 1, 1), row(most, 0, 1, 1), 1000, api.OK},
		{operations[0], row(most, 0, 1, 1), row(most, 1, 1, 1), 1, api.OK},
		{operations[0], row(most, 0, 1, 1), row(1, 1999, 1, 1), 1000, api.OK},
		{operations[0], row(most, 0, 1, 1), row(1, 2000, 1, 1), 0, api.ErrLimit},
		{operations[0], row(1, behind-1, 1, 1), row(most, 0, 1, 1), 0, api.ErrLimit},
		{operations[0], row(most, 0, 1, 3), row(most, 2, 1, 3), 0, api.ErrLimit},
		{operations[0], row(most, 0, 150, 450), row(most, 300, 150, 450), 0, api.ErrLimit},
		{operations[1], tops, spans(0, behind), 1000, api.OK},
		{operations[1], spans(0, behind), tops, 1000, api.OK},
		{operations[1], tops, tops, 1000, api.OK},
		{operations[1], tops, spans(0, 300, 301, behind), 1000, api.OK},
		{operations[1], tops, spans(0, 299, 300, behind), 1000, api.OK},
		{operations[1], tops, spans(0, 298, 299, behind), 0, api.ErrLimit},
		{operations[1], spans(0, 1, 2, behind), tops, 0, api.ErrLimit},
		{operations[1], tops, row(most, 299, 302, 298), 0, api.ErrLimit},
		{operations[1], tops, row(most, 300, 300, 300), 0, api.OK},
		{operations[2], spans(0, behind), row(999, 1, 1, 1), 1000, api.OK},
		{operations[2], spans(0, behind), row(most, 0, 1, 1), 1000, api.OK},
		{operations[2], spans(0, behind), row(most, behind-1999, 1, 1), 1000, api.OK},
		{operations[2], spans(0, behind), row(most, 1, 1, 1), 0, api.ErrLimit},
		{operations[2], spans(0, behind), row(most, behind-2000, 1, 1), 0, api.ErrLimit},
		{operations[2], tops, nil, 1000, api.OK},
		{operations[2], tops, tops, 0, api.OK},
		{operations[2], tops, spans(298, 301), 1000, api.OK},
		{operations[2], tops, spans(1, 299), 0, api.ErrLimit},
		{operations[2], tops, row(most, 100, 100, 500), 0, api.ErrLimit},
	} {
		if list, e := c.o.call(c.a, c.b); len(list) != c.count || e != c.e {
			t.Errorf("case %d: %s: %d spans, %v; want %d, %v", i, c.o.name, len(list), e, c.count, c.e)
		}
	}
}

// P3.1, C2 to C4: either list that is not valid, also where the result would have too many spans.
func TestOperationErrors(t *testing.T) {
	for _, o := range operations {
		for _, bad := range notLists() {
			for _, good := range [][]api.Span{nil, spans(0, behind), spans(0, 10, 20, 30), row(most, 0, 1, 1), row(most, 300, 300, 300), bad} {
				if list, e := o.call(bad, good); len(list) != 0 || e != api.ErrArg {
					t.Errorf("%s(%.80v, %.80v): %.80v, %v", o.name, bad, good, list, e)
				}
				if list, e := o.call(good, bad); len(list) != 0 || e != api.ErrArg {
					t.Errorf("%s(%.80v, %.80v): %.80v, %v", o.name, good, bad, list, e)
				}
			}
		}
	}
}

// P3.1, C5.
func TestLength(t *testing.T) {
	for _, c := range []struct {
		l    []api.Span
		want int
	}{
		{spans(0, 10, 20, 30), 20}, {nil, 0}, {spans(0, 1), 1}, {spans(behind-1, behind), 1}, {spans(0, behind), 600001}, {spans(0, 1, behind-1, behind), 2},
		{row(most, 0, 1, 1), 1000}, {row(most, 0, 300, 300), 300000}, {row(most, 1, 599, 1), 599000},
	} {
		if n := length(t, c.l); n != c.want {
			t.Errorf("Length(%v): %d; want %d", c.l, n, c.want)
		}
	}
	for _, from := range windows(10) {
		for _, m := range smallSets(from, 10) {
			count := 0
			for _, has := range m.has {
				if has {
					count++
				}
			}
			if n := length(t, m.list()); n != count {
				t.Errorf("Length(%v): %d; want %d", m.list(), n, count)
			}
		}
	}
	for _, bad := range notLists() {
		if n, e := span.Length(bad); n != 0 || e != api.ErrArg {
			t.Errorf("Length(%.80v): %d, %v", bad, n, e)
		}
	}
}

// P3.1, C6: the examples, all small sets, and what lies about them.
func TestHas(t *testing.T) {
	example := spans(0, 10, 20, 30)
	if !has(t, example, 9) || has(t, example, 10) {
		t.Error("the examples fail")
	}
	for _, from := range windows(8) {
		for _, m := range smallSets(from, 8) {
			for minute := max(0, from-3); minute < min(from+11, behind); minute++ {
				i := minute - from
				want := 0 <= i && i < 8 && m.has[i]
				if got := has(t, m.list(), minute); got != want {
					t.Errorf("Has(%v, %d): %v", m.list(), minute, got)
				}
			}
			if want := from == 0 && m.has[0]; has(t, m.list(), 0) != want {
				t.Errorf("Has(%v, 0): %v", m.list(), !want)
			}
			if want := from+8 == behind && m.has[7]; has(t, m.list(), api.MaxMinute) != want {
				t.Errorf("Has(%v, %d): %v", m.list(), api.MaxMinute, !want)
			}
		}
	}
}

// P3.1, C6: each minute of lists of many spans, and each span of lists of 1000.
func TestHasWide(t *testing.T) {
	for _, m := range wideSets() {
		l := m.list()
		for i, want := range m.has {
			if got := has(t, l, m.from+i); got != want {
				t.Fatalf("Has(%v, %d): %v", l, m.from+i, got)
			}
		}
	}
	l := row(most, 1, 1, 599)
	for i := range most {
		if has(t, l, 600*i) || !has(t, l, 600*i+1) || has(t, l, 600*i+2) {
			t.Errorf("Has about span %d of %v", i, l)
		}
	}
}

// P3.1, C6.
func TestHasErrors(t *testing.T) {
	notMinutes := []int{-1, behind, behind + 1, -behind, 1 << 32, 1<<32 + 5, -1 << 32, math.MaxInt, math.MinInt}
	for _, l := range append(someLists(), notLists()...) {
		for _, bad := range notMinutes {
			if got, e := span.Has(l, bad); got || e != api.ErrArg {
				t.Errorf("Has(%.80v, %d): %v, %v", l, bad, got, e)
			}
		}
	}
	for _, bad := range notLists() {
		for _, minute := range []int{0, 1, 5, 10, api.MaxMinute} {
			if got, e := span.Has(bad, minute); got || e != api.ErrArg {
				t.Errorf("Has(%.80v, %d): %v, %v", bad, minute, got, e)
			}
		}
	}
}

// P3.1, C7: the examples, the greatest shifts, and shifts by which a minute would be none.
func TestShift(t *testing.T) {
	const far = 600000
	for _, c := range []struct {
		l    []api.Span
		by   int
		want []api.Span
		e    api.Errno
	}{
		{spans(0, 10, 20, 30), 5, spans(5, 15, 25, 35), api.OK},
		{spans(0, 10, 20, 30), -1, nil, api.ErrRange},
		{spans(0, 10, 20, 30), 0, spans(0, 10, 20, 30), api.OK},
		{spans(7, 10, 20, 30), -7, spans(0, 3, 13, 23), api.OK},
		{spans(7, 10, 20, 30), -8, nil, api.ErrRange},
		{spans(7, 10, 20, 30), -10, nil, api.ErrRange},
		{spans(7, 10, 20, 30), -30, nil, api.ErrRange},
		{spans(0, 10, 20, 30), behind - 30, spans(behind-30, behind-20, behind-10, behind), api.OK},
		{spans(0, 10, 20, 30), behind - 29, nil, api.ErrRange},
		{spans(0, 10, 20, 30), far, nil, api.ErrRange},
		{spans(0, 1), far, spans(far, behind), api.OK},
		{spans(far, behind), -far, spans(0, 1), api.OK},
		{spans(far, behind), 1, nil, api.ErrRange},
		{spans(far, behind), far, nil, api.ErrRange},
		{spans(0, 1), -1, nil, api.ErrRange},
		{spans(0, 1), -far, nil, api.ErrRange},
		{spans(1, 2), far, nil, api.ErrRange},
		{spans(0, 2), far, nil, api.ErrRange},
		{spans(far-1, far), -far, nil, api.ErrRange},
		{spans(far-1, behind), -far, nil, api.ErrRange},
		{spans(0, behind), 0, spans(0, behind), api.OK},
		{spans(0, behind), 1, nil, api.ErrRange},
		{spans(0, behind), -1, nil, api.ErrRange},
		{spans(0, 1, far, behind), 1, nil, api.ErrRange},
		{spans(0, 1, far, behind), -1, nil, api.ErrRange},
		{nil, 0, nil, api.OK}, {nil, far, nil, api.OK}, {nil, -far, nil, api.OK},
		{row(most, 0, 1, 1), 598002, row(most, 598002, 1, 1), api.OK},
		{row(most, 0, 1, 1), 598003, nil, api.ErrRange},
		{row(most, 300, 300, 300), -300, row(most, 0, 300, 300), api.OK},
		{row(most, 300, 300, 300), -301, nil, api.ErrRange},
		{row(most, 300, 300, 300), 1, row(most, 301, 300, 300), api.OK},
		{row(most, 300, 300, 300), 2, nil, api.ErrRange},
	} {
		if moved, e := span.Shift(c.l, c.by); !slices.Equal(moved, c.want) || e != c.e {
			t.Errorf("Shift(%v, %d): %v, %v; want %v, %v", c.l, c.by, moved, e, c.want, c.e)
		}
	}
}

// P3.1, C7: a list or a shift that is not valid comes ahead of minutes that are none.
func TestShiftErrors(t *testing.T) {
	for _, l := range append(someLists(), notLists()...) {
		for _, bad := range []int{600001, -600001, 600002, 1 << 32, 1<<32 + 5, -1<<32 - 5, math.MaxInt, math.MinInt, math.MinInt + 1} {
			if moved, e := span.Shift(l, bad); len(moved) != 0 || e != api.ErrArg {
				t.Errorf("Shift(%.80v, %d): %.80v, %v", l, bad, moved, e)
			}
		}
	}
	for _, bad := range notLists() {
		for _, by := range []int{0, 1, -1, 5, 600000, -600000} {
			if moved, e := span.Shift(bad, by); len(moved) != 0 || e != api.ErrArg {
				t.Errorf("Shift(%.80v, %d): %.80v, %v", bad, by, moved, e)
			}
		}
	}
}

// spoil overwrites a result, and what lies behind it in its memory.
func spoil(l []api.Span) {
	for i := range l[:cap(l)] {
		l[:cap(l)][i] = api.Span{From: -7, Until: -9}
	}
}

// P3.1: no argument is changed, nor what lies behind it, and a result is new memory.
func TestArgumentsStay(t *testing.T) {
	memoryA, memoryB := row(40, 0, 3, 2), row(40, 4, 4, 1)
	a, b := memoryA[:20], memoryB[:20]
	results := map[string][]api.Span{"Shift by 0": shift(t, a, 0), "Shift": shift(t, a, 9)}
	for _, o := range operations {
		results[o.name] = apply(t, o, a, b)
		results[o.name+" with nothing"] = apply(t, o, a, nil)
		results[o.name+" of nothing"] = apply(t, o, nil, b)
		results[o.name+" with itself"] = apply(t, o, a, a)
	}
	if length(t, a) != 60 || !has(t, a, 5) || !span.Valid(a) {
		t.Error(a)
	}
	for name, list := range results {
		spoil(list)
		if !slices.Equal(memoryA, row(40, 0, 3, 2)) || !slices.Equal(memoryB, row(40, 4, 4, 1)) {
			t.Fatalf("%s: %v, %v", name, memoryA, memoryB)
		}
	}
	if list := union(t, a, b); !slices.Equal(list, union(t, row(20, 0, 3, 2), row(20, 4, 4, 1))) {
		t.Error(list)
	}
}
