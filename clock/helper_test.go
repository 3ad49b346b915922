package clock_test

import (
	"math"
	"slices"
	"sort"
	"testing"

	"barcarole/api"
	"barcarole/clock"
)

const (
	last      = 600000 // the last minute
	mostError = 1000
	mostDrift = 100
)

// far are integers that are no minutes, errors or drifts, and that a narrower type or a sum would wrap into them.
var far = []int{
	-1, -2, -100, -last, 600001, 600002, 1 << 31, 1 << 32, 1<<32 + 5, -1 << 31, -1 << 32, -1<<32 + 5,
	1 << 62, -1 << 62, math.MaxInt, math.MaxInt - 1, math.MinInt, math.MinInt + 1,
}

// clocks are valid clocks: with each limit, those next to it, and some between them.
func clocks() []api.Clock {
	var list []api.Clock
	for _, shown := range []int{0, 1, 100, 999, 1000, 300000, last - 1001, last - 7, last - 1, last} {
		for _, e := range []int{0, 1, 2, 17, 999, 1000} {
			for _, drift := range []int{0, 1, 3, 10, 99, 100} {
				list = append(list, api.Clock{Shown: shown, Error: e, Drift: drift})
			}
		}
	}
	return list
}

// fewClocks are valid clocks that show nearly the same, and two that are set far from them.
func fewClocks() []api.Clock {
	return []api.Clock{
		{Shown: 0, Error: 0, Drift: 0}, {Shown: 0, Error: 3, Drift: 0}, {Shown: 0, Error: 0, Drift: 100}, {Shown: 2, Error: 1, Drift: 70},
		{Shown: 5, Error: 2, Drift: 1}, {Shown: 9, Error: 0, Drift: 10}, {Shown: 0, Error: 1000, Drift: 100}, {Shown: last - 20, Error: 2, Drift: 100},
	}
}

// notClocks are clocks that are not valid, by one number or by more.
func notClocks() []api.Clock {
	list := []api.Clock{
		{Shown: 100, Error: 1001, Drift: 10}, {Shown: 100, Error: 2, Drift: 101}, {Shown: 100, Error: last, Drift: 10}, {Shown: 100, Error: 2, Drift: 1000},
		{Shown: -1, Error: -1, Drift: -1}, {Shown: last + 1, Error: mostError + 1, Drift: mostDrift + 1}, {Shown: math.MinInt, Error: math.MinInt, Drift: math.MinInt}, {Shown: math.MaxInt, Error: math.MaxInt, Drift: math.MaxInt},
	}
	for _, n := range far {
		list = append(list, api.Clock{Shown: n, Error: 2, Drift: 10}, api.Clock{Shown: 100, Error: n, Drift: 10}, api.Clock{Shown: 100, Error: 2, Drift: n})
	}
	return list
}

// readings are those of a clock at which the drift becomes a minute more, and those at the ends of the minutes.
func readings(c api.Clock) []int {
	var list []int
	for _, d := range []int{0, 1, 2, 9, 10, 11, 20, 21, 99, 100, 101, 250, 333, 334, 499, 500, 999, 1000, 1001, 1002, 2000, 2001, 10000, 10001, 123456, 200000, 299999} {
		list = append(list, c.Shown+d)
	}
	for _, reading := range []int{2, 17, 1000, 1001, 61000, 66666, 66667, 300000, 539000, 599000, 599001, last - 100, last - 18, last - 17, last - 11, last - 2, last - 1, last} {
		list = append(list, reading)
	}
	slices.Sort(list)
	return slices.DeleteFunc(slices.Compact(list), func(reading int) bool { return !isReading(c, reading) })
}

func isReading(c api.Clock, reading int) bool { return c.Shown <= reading && reading <= last }

// notReadings are integers that are no readings of a clock.
func notReadings(c api.Clock) []int {
	list := slices.Clone(far)
	for _, reading := range []int{0, c.Shown / 2, c.Shown - 2, c.Shown - 1} {
		if reading < c.Shown {
			list = append(list, reading)
		}
	}
	return list
}

// isTrue is what the document requires of a true time: it is a time, and it differs from the reading by at most
// the error and the least integer that is not below the gain, that is, by less than the error and the gain and 1.
func isTrue(c api.Clock, reading, time int) bool {
	return 0 <= time && time <= last && 1000*(apart(reading, time)-c.Error-1) < (reading-c.Shown)*c.Drift
}

func apart(a, b int) int {
	if a < b {
		return b - a
	}
	return a - b
}

// ends are the first and the last time that are true, found from the reading on.
func ends(c api.Clock, reading int) (first, behind int) {
	down := sort.Search(reading+1, func(i int) bool { return !isTrue(c, reading, reading-i) })
	up := sort.Search(last-reading+1, func(i int) bool { return !isTrue(c, reading, reading+i) })
	return reading - down + 1, reading + up - 1
}

// passed is what the document requires of Passed.
func passed(c api.Clock, reading, time int) int {
	first, end := ends(c, reading)
	if first >= time {
		return 1
	}
	if end < time {
		return -1
	}
	return 0
}

// order is what the document requires of Order.
func order(a api.Clock, x int, b api.Clock, y int) int {
	firstA, endA := ends(a, x)
	firstB, endB := ends(b, y)
	if endA < firstB {
		return -1
	}
	if endB < firstA {
		return 1
	}
	return 0
}

// times are given times about the true times of a reading, at the ends of the minutes, and far from all minutes.
func times(c api.Clock, reading int) []int {
	first, end := ends(c, reading)
	list := []int{first - 2, first - 1, first, first + 1, reading, end - 1, end, end + 1, end + 2, 0, 1, last - 1, last}
	list = append(list, far...)
	slices.Sort(list)
	return slices.Compact(list)
}

func callTrue(t *testing.T, c api.Clock, reading int) api.Span {
	t.Helper()
	s, e := clock.True(c, reading)
	if e != api.OK {
		t.Fatalf("True(%v, %d): %v", c, reading, e)
	}
	return s
}

func callPassed(t *testing.T, c api.Clock, reading, time int) int {
	t.Helper()
	n, e := clock.Passed(c, reading, time)
	if e != api.OK {
		t.Fatalf("Passed(%v, %d, %d): %v", c, reading, time, e)
	}
	return n
}

func callOrder(t *testing.T, a api.Clock, x int, b api.Clock, y int) int {
	t.Helper()
	n, e := clock.Order(a, x, b, y)
	if e != api.OK {
		t.Fatalf("Order(%v, %d, %v, %d): %v", a, x, b, y, e)
	}
	return n
}
