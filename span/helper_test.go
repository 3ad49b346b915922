package span_test

import (
	"math"
	"math/rand/v2"
	"slices"
	"testing"

	"barcarole/api"
	"barcarole/span"
)

const (
	most   = api.MaxSpans
	behind = api.MaxMinute + 1 // the least integer above all minutes
)

// operation is a function of two lists, with what it is to take of the minutes.
type operation struct {
	name  string
	call  func(a, b []api.Span) ([]api.Span, api.Errno)
	takes func(inA, inB bool) bool
}

var operations = []operation{
	{"Union", span.Union, func(inA, inB bool) bool { return inA || inB }},
	{"Common", span.Common, func(inA, inB bool) bool { return inA && inB }},
	{"Minus", span.Minus, func(inA, inB bool) bool { return inA && !inB }},
}

// spans is a list of spans from pairs of numbers.
func spans(ends ...int) []api.Span {
	var list []api.Span
	for i := 0; i < len(ends); i += 2 {
		list = append(list, api.Span{From: ends[i], Until: ends[i+1]})
	}
	return list
}

// row is a list of spans of one length, with gaps of one length between them.
func row(count, from, length, gap int) []api.Span {
	var list []api.Span
	for range count {
		list = append(list, api.Span{From: from, Until: from + length})
		from += length + gap
	}
	return list
}

// minutes says of each minute from a first one on whether it is taken.
type minutes struct {
	from int
	has  []bool
}

// list is the valid list of the minutes that are taken, found minute by minute.
func (m minutes) list() []api.Span {
	var list []api.Span
	for i, has := range m.has {
		switch {
		case !has:
		case i > 0 && m.has[i-1]:
			list[len(list)-1].Until++
		default:
			list = append(list, api.Span{From: m.from + i, Until: m.from + i + 1})
		}
	}
	return list
}

// with are the minutes that an operation is to take.
func (m minutes) with(o operation, other minutes) minutes {
	result := minutes{from: m.from}
	for i := range m.has {
		result.has = append(result.has, o.takes(m.has[i], other.has[i]))
	}
	return result
}

// windows are where the minutes of small sets begin, for a number of minutes:
// so that they have the first minute, some in the middle, and the last one.
func windows(count int) []int { return []int{0, 300000, behind - count} }

// smallSets are all sets of some neighbouring minutes.
func smallSets(from, count int) []minutes {
	var list []minutes
	for bits := range 1 << count {
		m := minutes{from: from}
		for i := range count {
			m.has = append(m.has, bits>>i&1 == 1)
		}
		list = append(list, m)
	}
	return list
}

// wideSets are sets of many spans, of various lengths and gaps, whose lists are valid.
func wideSets() []minutes {
	const count = 12000
	random := rand.New(rand.NewPCG(3, 1873))
	var list []minutes
	for _, longest := range [][2]int{{2, 22}, {22, 2}, {3, 25}, {25, 3}, {12, 12}, {40, 150}, {2500, 900}} { // of gaps, of spans
		for range 2 {
			m := minutes{from: behind - count}
			for turn := random.IntN(2); len(m.has) < count; turn = 1 - turn {
				for range 1 + random.IntN(longest[turn]) {
					m.has = append(m.has, turn == 1)
				}
			}
			m.has = m.has[:count]
			if l := m.list(); len(l) > most { // what is too much is taken from the front
				clear(m.has[:l[len(l)-most-1].Until-m.from])
			}
			list = append(list, m)
		}
	}
	return list
}

// longLists are lists of 1000 spans, or nearly as many, up to the ends of what is a minute.
func longLists() [][]api.Span {
	return [][]api.Span{
		row(most, 0, 1, 1), row(most, 1, 1, 1), row(most, 0, 300, 300), row(most, 300, 300, 300), row(most, behind-1999, 1, 1), row(most, behind-2000, 1, 1),
		row(most, 1, 599, 1), row(most, 0, 1, 599), row(most-1, 0, 3, 2), row(most-1, 3, 2, 3), row(most-1, 7, 1, 5), row(500, 2, 7, 5),
	}
}

// someLists are valid lists of all lengths and places.
func someLists() [][]api.Span {
	list := [][]api.Span{
		nil, {}, spans(0, behind), spans(0, 1), spans(behind-1, behind), spans(0, 1, behind-1, behind), spans(0, behind-1), spans(1, behind), spans(0, 300000, 300001, behind),
		spans(0, 10, 20, 30), spans(5, 20, 25, 40), spans(10, 20), spans(30, 5000), spans(299999, 300002),
	}
	for _, m := range wideSets() {
		list = append(list, m.list())
	}
	return append(list, longLists()...)
}

// notLists are lists that are not valid, one by each condition.
func notLists() [][]api.Span {
	list := [][]api.Span{
		spans(0, 0), spans(5, 5), spans(behind, behind), spans(6, 5), spans(1, 0), spans(behind, 0),
		spans(-1, 0), spans(-1, 1), spans(-1, behind), spans(0, behind+1), spans(behind-1, behind+1), spans(behind, behind+1), spans(behind+5, behind+9),
		spans(0, 1, 1, 2), spans(0, 10, 10, 20), spans(0, 10, 5, 20), spans(0, 10, 9, 20), spans(0, 10, 2, 5), spans(0, 10, 0, 10), spans(20, 30, 0, 10), spans(5, 10, 4, 20),
		spans(0, 1, 2, 3, 3, 4), spans(0, 1, 3, 3), spans(0, 1, 3, 2), spans(2, 2, 4, 5), spans(-3, -2, 0, 1), spans(0, 1, behind-2, behind+1), spans(0, 1, 5, 4, 7, 9), spans(-1, 1, 3, 4), spans(0, 0, 0, 0),
		spans(math.MinInt, math.MaxInt), spans(math.MinInt, 5), spans(5, math.MaxInt), spans(math.MaxInt, math.MinInt), spans(math.MinInt, math.MinInt), spans(math.MaxInt, math.MaxInt),
		spans(0, math.MaxInt, math.MinInt, 5), spans(0, math.MaxInt, 3, 4), spans(0, 1, math.MinInt, 5), spans(1<<32, 1<<32+5), spans(-1<<32, -1<<32+5), spans(0, 1<<32+1), spans(1<<32, 5),
		row(most+1, 0, 1, 1), row(most+1, 0, 300, 299), row(5000, 0, 1, 1), row(100000, 0, 1, 1), row(most+1, 0, 0, 0), make([]api.Span, most), row(most, 1, 600, 1), row(most, 0, 1, 0),
	}
	broken := row(most, 0, 1, 1)
	broken[most-1].Until = broken[most-1].From
	return append(list, broken)
}

// apply is the result of an operation that has to have one.
func apply(t *testing.T, o operation, a, b []api.Span) []api.Span {
	t.Helper()
	list, e := o.call(a, b)
	if e != api.OK {
		t.Fatalf("%s(%.80v, %.80v): %v", o.name, a, b, e)
	}
	return list
}

func union(t *testing.T, a, b []api.Span) []api.Span {
	t.Helper()
	return apply(t, operations[0], a, b)
}

func common(t *testing.T, a, b []api.Span) []api.Span {
	t.Helper()
	return apply(t, operations[1], a, b)
}

func minus(t *testing.T, a, b []api.Span) []api.Span {
	t.Helper()
	return apply(t, operations[2], a, b)
}

func length(t *testing.T, l []api.Span) int {
	t.Helper()
	n, e := span.Length(l)
	if e != api.OK {
		t.Fatalf("Length(%v): %v", l, e)
	}
	return n
}

func has(t *testing.T, l []api.Span, minute int) bool {
	t.Helper()
	found, e := span.Has(l, minute)
	if e != api.OK {
		t.Fatalf("Has(%v, %d): %v", l, minute, e)
	}
	return found
}

func shift(t *testing.T, l []api.Span, by int) []api.Span {
	t.Helper()
	moved, e := span.Shift(l, by)
	if e != api.OK {
		t.Fatalf("Shift(%v, %d): %v", l, by, e)
	}
	return moved
}

// ends are the numbers at which the spans of lists begin and end, with 0 and the last minute, in order.
func ends(lists ...[]api.Span) []int {
	numbers := []int{0, api.MaxMinute}
	for _, l := range lists {
		for _, s := range l {
			numbers = append(numbers, s.From, s.Until)
		}
	}
	slices.Sort(numbers)
	return slices.Compact(numbers)
}

// sample are minutes at which lists change, and those next to them: all of short lists, some of long ones.
func sample(lists ...[]api.Span) []int {
	numbers := ends(lists...)
	var list []int
	for i := 0; i < len(numbers); i += 1 + len(numbers)/40 {
		for minute := max(numbers[i]-1, 0); minute <= min(numbers[i]+1, api.MaxMinute); minute++ {
			list = append(list, minute)
		}
	}
	slices.Sort(list)
	return slices.Compact(list)
}
