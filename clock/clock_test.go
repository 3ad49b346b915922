package clock_test

import (
	"math"
	"testing"

	"barcarole/api"
	"barcarole/clock"
)

// example is the clock of the document's examples.
var example = api.Clock{Shown: 100, Error: 2, Drift: 10}

// P4.1, D1: each limit, with the integers on either side of it, in all combinations.
func TestValid(t *testing.T) {
	shown := []int{0, 1, 300000, last - 1, last}
	errors := []int{0, 1, 500, mostError - 1, mostError}
	drifts := []int{0, 1, 50, mostDrift - 1, mostDrift}
	goodShown, goodErrors, goodDrifts := len(shown), len(errors), len(drifts)
	shown = append(shown, far...)
	errors = append(append(errors, mostError+1, mostError+2, last), far...)
	drifts = append(append(drifts, mostDrift+1, mostDrift+2, mostError, last), far...)
	for i, s := range shown {
		for j, e := range errors {
			for k, d := range drifts {
				c, want := api.Clock{Shown: s, Error: e, Drift: d}, i < goodShown && j < goodErrors && k < goodDrifts
				if got := clock.Valid(c); got != want {
					t.Errorf("Valid(%v): %v", c, got)
				}
			}
		}
	}
}

// P4.1, D1: what the other tests take to be valid, and not to be.
func TestValidHelpers(t *testing.T) {
	for _, c := range append(clocks(), fewClocks()...) {
		if !clock.Valid(c) {
			t.Errorf("not valid: %v", c)
		}
	}
	for _, c := range notClocks() {
		if clock.Valid(c) {
			t.Errorf("valid: %v", c)
		}
	}
}

// P4.1, D2: the example, drifts that are rounded up and some that are not, and the ends of the minutes.
func TestTrueCases(t *testing.T) {
	for _, c := range []struct {
		c           api.Clock
		reading     int
		from, until int
	}{
		{example, 350, 345, 356},
		{example, 100, 98, 103},
		{example, 101, 98, 105},
		{example, 200, 197, 204},
		{example, 201, 197, 206},
		{example, 300, 296, 305},
		{api.Clock{Shown: 500}, 500, 500, 501},
		{api.Clock{Shown: 500}, last - 1, last - 1, last},
		{api.Clock{Shown: 500, Error: 3}, 77777, 77774, 77781},
		{api.Clock{Shown: 500, Drift: 1}, 500, 500, 501},
		{api.Clock{Shown: 500, Drift: 1}, 501, 500, 503},
		{api.Clock{Shown: 500, Drift: 1}, 1499, 1498, 1501},
		{api.Clock{Shown: 500, Drift: 1}, 1500, 1499, 1502},
		{api.Clock{Shown: 500, Drift: 1}, 1501, 1499, 1504},
		{api.Clock{Shown: 500, Drift: 100}, 510, 509, 512},
		{api.Clock{Shown: 500, Drift: 100}, 511, 509, 514},
		{api.Clock{Shown: 500, Drift: 7}, 500 + 142, 641, 644},
		{api.Clock{Shown: 500, Drift: 7}, 500 + 143, 641, 646},
		{api.Clock{Shown: 500, Error: 4, Drift: 7}, 500 + 143, 637, 650},
		{api.Clock{Shown: 0, Error: 1000}, 999, 0, 2000},
		{api.Clock{Shown: 0, Error: 1000}, 1000, 0, 2001},
		{api.Clock{Shown: 0, Error: 1000}, 1001, 1, 2002},
		{api.Clock{Shown: 0, Error: 1000, Drift: 100}, 0, 0, 1001},
		{api.Clock{Shown: 0, Error: 1}, 0, 0, 2},
		{api.Clock{Shown: 0}, 0, 0, 1},
		{api.Clock{Shown: last}, last, last, last + 1},
		{api.Clock{Shown: last, Error: 1, Drift: 100}, last, last - 1, last + 1},
		{api.Clock{Shown: last, Error: 1000, Drift: 100}, last, last - 1000, last + 1},
		{api.Clock{Shown: 100, Error: 5}, last - 6, last - 11, last},
		{api.Clock{Shown: 100, Error: 5}, last - 5, last - 10, last + 1},
		{api.Clock{Shown: 100, Error: 5}, last - 4, last - 9, last + 1},
		{api.Clock{Shown: 0, Error: 1000, Drift: 100}, last, 539000, last + 1},
		{api.Clock{Shown: 0, Error: 0, Drift: 100}, 300000, 270000, 330001},
		{api.Clock{Shown: 0, Error: 0, Drift: 1}, last, 599400, last + 1},
	} {
		want := api.Span{From: c.from, Until: c.until}
		if got, e := clock.True(c.c, c.reading); got != want || e != api.OK {
			t.Errorf("True(%v, %d): %v, %v; want %v", c.c, c.reading, got, e, want)
		}
	}
}

// P4.1, D2.
func TestTrue(t *testing.T) {
	for _, c := range append(clocks(), fewClocks()...) {
		for _, reading := range readings(c) {
			first, end := ends(c, reading)
			if got, want := callTrue(t, c, reading), (api.Span{From: first, Until: end + 1}); got != want {
				t.Errorf("True(%v, %d): %v; want %v", c, reading, got, want)
			}
		}
	}
}

// checkNot finds whether a clock with a number that is none of its readings is refused by all functions that take a reading.
func checkNot(t *testing.T, c api.Clock, reading int) {
	t.Helper()
	if s, e := clock.True(c, reading); s != (api.Span{}) || e != api.ErrArg {
		t.Errorf("True(%v, %d): %v, %v", c, reading, s, e)
	}
	for _, time := range []int{math.MinInt, -1, 0, 100, 350, last, last + 1, math.MaxInt} {
		if n, e := clock.Passed(c, reading, time); n != 0 || e != api.ErrArg {
			t.Errorf("Passed(%v, %d, %d): %d, %v", c, reading, time, n, e)
		}
	}
	for _, o := range []api.Clock{example, {Shown: 0}, {Shown: last}, c} {
		for _, other := range []int{o.Shown, 350, last, reading} {
			if n, e := clock.Order(c, reading, o, other); n != 0 || e != api.ErrArg {
				t.Errorf("Order(%v, %d, %v, %d): %d, %v", c, reading, o, other, n, e)
			}
			if n, e := clock.Order(o, other, c, reading); n != 0 || e != api.ErrArg {
				t.Errorf("Order(%v, %d, %v, %d): %d, %v", o, other, c, reading, n, e)
			}
		}
	}
}

// P4.1, D2 to D4: a number that is no reading of the clock.
func TestNotReadings(t *testing.T) {
	for _, c := range append(clocks(), fewClocks()...) {
		for _, reading := range notReadings(c) {
			checkNot(t, c, reading)
		}
	}
}

// P4.1, D2 to D4: a clock that is not valid, whatever the reading.
func TestNotClocks(t *testing.T) {
	for _, c := range notClocks() {
		for _, reading := range append([]int{c.Shown, 0, 99, 100, 101, 350, last}, far...) {
			checkNot(t, c, reading)
		}
	}
}

// P4.1, D3: the examples, and given times that are no minutes.
func TestPassedCases(t *testing.T) {
	for _, c := range []struct {
		c             api.Clock
		reading, time int
		want          int
	}{
		{example, 350, 344, 1}, {example, 350, 345, 1}, {example, 350, 346, 0}, {example, 350, 350, 0}, {example, 350, 355, 0}, {example, 350, 356, -1}, {example, 350, 357, -1},
		{example, 350, 0, 1}, {example, 350, -1, 1}, {example, 350, math.MinInt, 1}, {example, 350, last, -1}, {example, 350, last + 1, -1}, {example, 350, math.MaxInt, -1},
		{api.Clock{Shown: 7}, 7, 6, 1}, {api.Clock{Shown: 7}, 7, 7, 1}, {api.Clock{Shown: 7}, 7, 8, -1},
		{api.Clock{Error: 5}, 3, -1, 1}, {api.Clock{Error: 5}, 3, 0, 1}, {api.Clock{Error: 5}, 3, 1, 0}, {api.Clock{Error: 5}, 3, 8, 0}, {api.Clock{Error: 5}, 3, 9, -1},
		{api.Clock{Error: 5}, last - 3, last - 8, 1}, {api.Clock{Error: 5}, last - 3, last - 7, 0}, {api.Clock{Error: 5}, last - 3, last, 0}, {api.Clock{Error: 5}, last - 3, last + 1, -1},
		{api.Clock{Shown: last}, last, last, 1}, {api.Clock{Shown: last}, last, last + 1, -1}, {api.Clock{}, 0, 0, 1}, {api.Clock{}, 0, 1, -1},
	} {
		if n, e := clock.Passed(c.c, c.reading, c.time); n != c.want || e != api.OK {
			t.Errorf("Passed(%v, %d, %d): %d, %v; want %d", c.c, c.reading, c.time, n, e, c.want)
		}
	}
}

// P4.1, D3.
func TestPassed(t *testing.T) {
	for _, c := range append(clocks(), fewClocks()...) {
		for _, reading := range readings(c) {
			for _, time := range times(c, reading) {
				if got, want := callPassed(t, c, reading, time), passed(c, reading, time); got != want {
					t.Errorf("Passed(%v, %d, %d): %d; want %d", c, reading, time, got, want)
				}
			}
		}
	}
}

// P4.1, D4: the examples, and readings whose true times touch or have one minute in common.
func TestOrderCases(t *testing.T) {
	other := api.Clock{Shown: 300, Error: 1}
	for _, c := range []struct {
		a    api.Clock
		x    int
		b    api.Clock
		y    int
		want int
	}{
		{example, 350, other, 357, -1}, {example, 350, other, 356, 0}, {example, 350, other, 355, 0},
		{example, 350, other, 345, 0}, {example, 350, other, 344, 0}, {example, 350, other, 343, 1}, {example, 350, other, 300, 1},
		{other, 357, example, 350, 1}, {other, 356, example, 350, 0}, {other, 344, example, 350, 0}, {other, 343, example, 350, -1},
		{example, 350, example, 350, 0}, {example, 350, example, 360, 0}, {example, 350, example, 361, -1}, {example, 361, example, 350, 1},
		{api.Clock{}, 5, api.Clock{}, 5, 0}, {api.Clock{}, 5, api.Clock{}, 6, -1}, {api.Clock{}, 6, api.Clock{}, 5, 1},
		{api.Clock{}, 0, api.Clock{Shown: last}, last, -1}, {api.Clock{Shown: last}, last, api.Clock{}, 0, 1}, {api.Clock{Shown: last}, last, api.Clock{}, last, 0},
		{api.Clock{Error: 1000}, 0, api.Clock{}, 1000, 0}, {api.Clock{Error: 1000}, 0, api.Clock{}, 1001, -1}, {api.Clock{Error: 1000}, 1000, api.Clock{}, 0, 0}, {api.Clock{Error: 1000}, 1001, api.Clock{}, 0, 1},
		{api.Clock{Error: 1000}, last, api.Clock{}, last - 1000, 0}, {api.Clock{Error: 1000}, last, api.Clock{}, last - 1001, 1},
		{api.Clock{Drift: 100}, last, api.Clock{}, 540000, 0}, {api.Clock{Drift: 100}, last, api.Clock{}, 539999, 1},
	} {
		if n, e := clock.Order(c.a, c.x, c.b, c.y); n != c.want || e != api.OK {
			t.Errorf("Order(%v, %d, %v, %d): %d, %v; want %d", c.a, c.x, c.b, c.y, n, e, c.want)
		}
	}
}

// P4.1, D4: each clock with readings of others that are near to what touches its own.
func TestOrder(t *testing.T) {
	came := map[int]int{}
	for i, a := range clocks() {
		for _, x := range readings(a) {
			first, end := ends(a, x)
			for _, b := range []api.Clock{{}, {Error: 9}, {Error: 2, Drift: 1}, {Drift: 100}, clocks()[i*7%len(clocks())]} {
				for _, y := range append(readings(b), first-10, first-2, first-1, first, end, end+1, end+2, end+10) {
					if !isReading(b, y) {
						continue
					}
					got, want := callOrder(t, a, x, b, y), order(a, x, b, y)
					if got != want {
						t.Errorf("Order(%v, %d, %v, %d): %d; want %d", a, x, b, y, got, want)
					}
					came[got]++
				}
			}
		}
	}
	if len(came) != 3 || came[-1] < 100000 || came[0] < 100000 || came[1] < 100000 {
		t.Errorf("results: %v", came)
	}
}

// P4.1, D5: the example, the ends of the minutes, and errors of exactly 1000 and above.
func TestSetCases(t *testing.T) {
	for _, c := range []struct {
		reading     int
		from, until int
		error       int
		e           api.Errno
	}{
		{400, 395, 402, 5, api.OK},
		{400, 400, 401, 0, api.OK},
		{400, 399, 401, 1, api.OK}, {400, 400, 402, 1, api.OK}, {400, 399, 402, 1, api.OK}, {400, 398, 402, 2, api.OK}, {400, 399, 403, 2, api.OK},
		{400, 401, 402, 1, api.OK}, {400, 399, 400, 1, api.OK}, {400, 500, 510, 109, api.OK}, {400, 300, 310, 100, api.OK},
		{100, 98, 103, 2, api.OK}, {99, 99, 100, 0, api.OK}, {0, 0, 1, 0, api.OK}, {0, 5, 6, 5, api.OK}, {1, 0, 1, 1, api.OK}, // readings that are none of the clock
		{last, last, last + 1, 0, api.OK}, {last, last - 1, last, 1, api.OK}, {last - 1, last, last + 1, 1, api.OK}, {last, last - 1000, last + 1, 1000, api.OK}, {last, last - 1001, last + 1, 0, api.ErrRange},
		{0, 0, 1001, 1000, api.OK}, {0, 0, 1002, 0, api.ErrRange}, {0, 1000, 1001, 1000, api.OK}, {0, 1001, 1002, 0, api.ErrRange},
		{5000, 4000, 5001, 1000, api.OK}, {5000, 3999, 5001, 0, api.ErrRange}, {5000, 5000, 6001, 1000, api.OK}, {5000, 5000, 6002, 0, api.ErrRange}, {5000, 4000, 6001, 1000, api.OK}, {5000, 4001, 6002, 0, api.ErrRange}, {5000, 3999, 6000, 0, api.ErrRange},
		{5000, 6000, 6001, 1000, api.OK}, {5000, 6001, 6002, 0, api.ErrRange}, {5000, 4000, 4001, 1000, api.OK}, {5000, 3999, 4000, 0, api.ErrRange}, {5000, 4000, 4500, 1000, api.OK}, {5000, 5500, 6001, 1000, api.OK},
		{0, 0, last + 1, 0, api.ErrRange}, {300000, 0, last + 1, 0, api.ErrRange}, {0, last, last + 1, 0, api.ErrRange}, {last, 0, 1, 0, api.ErrRange}, {400, 400, last + 1, 0, api.ErrRange},
	} {
		want := api.Clock{}
		if c.e == api.OK {
			want = api.Clock{Shown: c.reading, Error: c.error, Drift: 10}
		}
		if got, e := clock.Set(example, c.reading, api.Span{From: c.from, Until: c.until}); got != want || e != c.e {
			t.Errorf("Set at %d by the times from %d to before %d: %v, %v; want %v, %v", c.reading, c.from, c.until, got, e, want, c.e)
		}
	}
}

// P4.1, D5: the Drift stays, and Shown and Error of the clock do not matter.
func TestSetOthers(t *testing.T) {
	for _, c := range clocks() {
		want := api.Clock{Shown: 7000, Error: 30, Drift: c.Drift}
		if got, e := clock.Set(c, 7000, api.Span{From: 6980, Until: 7031}); got != want || e != api.OK {
			t.Errorf("Set of %v: %v, %v; want %v", c, got, e, want)
		}
	}
}

// checkNotSet finds whether a clock is refused as an argument, and not for its error.
func checkNotSet(t *testing.T, c api.Clock, reading int, times api.Span) {
	t.Helper()
	if got, e := clock.Set(c, reading, times); got != (api.Clock{}) || e != api.ErrArg {
		t.Errorf("Set(%v, %d, %v): %v, %v", c, reading, times, got, e)
	}
}

// P4.1, D5: what is not valid comes ahead of an error above 1000.
func TestSetErrors(t *testing.T) {
	near, whole := api.Span{From: 395, Until: 402}, api.Span{From: 0, Until: last + 1}
	for _, c := range notClocks() {
		checkNotSet(t, c, 400, near)
		checkNotSet(t, c, 400, whole)
		checkNotSet(t, c, -1, near)
	}
	for _, reading := range far {
		checkNotSet(t, example, reading, near)
		checkNotSet(t, example, reading, whole)
		checkNotSet(t, example, reading, api.Span{From: 0, Until: 1})
		checkNotSet(t, example, reading, api.Span{From: last, Until: last + 1})
	}
	for _, bad := range []api.Span{
		{From: 0, Until: 0}, {From: 400, Until: 400}, {From: last, Until: last}, {From: last + 1, Until: last + 1}, {From: 401, Until: 400}, {From: 1, Until: 0}, {From: last, Until: 0},
		{From: -1, Until: 0}, {From: -1, Until: 1}, {From: -1, Until: 400}, {From: -1, Until: last + 1}, {From: 0, Until: last + 2}, {From: last, Until: last + 2}, {From: last + 1, Until: last + 2}, {From: 400, Until: last + 2},
		{From: math.MinInt, Until: math.MaxInt}, {From: math.MinInt, Until: 402}, {From: 395, Until: math.MaxInt}, {From: math.MaxInt, Until: math.MinInt}, {From: 395, Until: math.MinInt}, {From: math.MaxInt, Until: 402},
		{From: math.MinInt, Until: math.MinInt}, {From: math.MinInt, Until: math.MinInt + 1}, {From: math.MaxInt, Until: math.MaxInt}, {From: math.MaxInt - 1, Until: math.MaxInt},
		{From: 1<<32 + 395, Until: 1<<32 + 402}, {From: 395, Until: 1<<32 + 402}, {From: -1<<32 + 395, Until: 402},
	} {
		for _, reading := range []int{0, 1, 100, 400, last - 1, last} {
			checkNotSet(t, example, reading, bad)
		}
	}
}
