package clock_test

import (
	"testing"

	"barcarole/api"
	"barcarole/clock"
)

// within reports whether a span has a minute.
func within(s api.Span, minute int) bool { return s.From <= minute && minute < s.Until }

// setTimes are what the true times may have been when a clock was set: the ends, and some between them.
func setTimes(c api.Clock) []int {
	var list []int
	for _, difference := range []int{-c.Error, -c.Error / 2, 0, c.Error / 2, c.Error} {
		if time := c.Shown + difference; 0 <= time && time <= last {
			list = append(list, time)
		}
	}
	return list
}

// P4.2: wherever the true time was when the clock was set, and however much the clock has gained or lost.
func TestTruth(t *testing.T) {
	for _, c := range clocks() {
		for _, reading := range readings(c) {
			s, d := callTrue(t, c, reading), reading-c.Shown
			most := d * c.Drift / 1000 // whole minutes
			for _, set := range setTimes(c) {
				for _, gained := range []int{-most, -most / 2, 0, most / 2, most} {
					if time := set + d - gained; 0 <= time && time <= last && !within(s, time) {
						t.Errorf("%v at %d: set at %d, gained %d: not %d but %v", c, reading, set, gained, time, s)
					}
				}
			}
		}
	}
}

// P4.2: a clock that gains a minute as soon as it may, or loses one, at each minute of a long time.
func TestTruthOnTheWay(t *testing.T) {
	for _, c := range []api.Clock{{Shown: 70000, Error: 3, Drift: 1}, {Shown: 70000, Error: 0, Drift: 7}, {Shown: 70000, Error: 1, Drift: 99}, {Shown: 70000, Error: 1000, Drift: 100}, {Shown: 70000, Error: 5, Drift: 0}} {
		gained := 0
		for d := range 5000 {
			if 1000*(gained+1) <= d*c.Drift {
				gained++
			}
			reading := c.Shown + d
			s := callTrue(t, c, reading)
			least, most := c.Shown-c.Error+d-gained, c.Shown+c.Error+d+gained
			if !within(s, least) || !within(s, most) {
				t.Fatalf("%v at %d: %v without %d or %d", c, reading, s, least, most)
			}
			if most+1 < s.Until-1 || s.From < least-1 { // a part of a minute counts as one
				t.Fatalf("%v at %d: %v has more than from %d to %d", c, reading, s, least, most)
			}
		}
	}
}

// P4.2: no other times, and all of these, time by time.
func TestTimesOneByOne(t *testing.T) {
	for _, c := range []api.Clock{example, {}, {Error: 4}, {Drift: 100}, {Shown: 30, Error: 7, Drift: 33}, {Shown: last - 300, Error: 3, Drift: 90}, {Shown: last, Error: 20, Drift: 100}} {
		for d := 0; d <= 300 && c.Shown+d <= last; d++ {
			reading := c.Shown + d
			s := callTrue(t, c, reading)
			if s.From < 0 || s.Until > last+1 || !within(s, reading) {
				t.Errorf("True(%v, %d): %v", c, reading, s)
			}
			for time := max(0, reading-60); time <= min(reading+60, last); time++ {
				if within(s, time) != isTrue(c, reading, time) {
					t.Errorf("True(%v, %d): %v is wrong about %d", c, reading, s, time)
				}
			}
		}
	}
}

// P4.3: from each reading to the next one, to the last one.
func TestProgress(t *testing.T) {
	for _, c := range []api.Clock{example, {}, {Error: 1000, Drift: 100}, {Drift: 100}, {Error: 1, Drift: 99}, {Shown: 3, Error: 50, Drift: 1}, {Shown: last - 5000, Error: 1000, Drift: 77}} {
		before := callTrue(t, c, c.Shown)
		for reading := c.Shown + 1; reading <= last; reading++ {
			s := callTrue(t, c, reading)
			if s.From < before.From || s.Until < before.Until {
				t.Fatalf("%v: at %d %v, and then %v", c, reading-1, before, s)
			}
			before = s
		}
	}
}

// P4.3: of all clocks, from some readings to greater ones.
func TestProgressFar(t *testing.T) {
	for _, c := range clocks() {
		before := api.Span{}
		for _, reading := range readings(c) {
			s := callTrue(t, c, reading)
			if s.From < before.From || s.Until < before.Until {
				t.Errorf("%v: at %d %v after %v", c, reading, s, before)
			}
			before = s
		}
	}
}

// P4.4: for greater readings and for later times.
func TestPassedStays(t *testing.T) {
	for _, c := range append(clocks(), fewClocks()...) {
		list := readings(c)
		for i, reading := range list {
			before := 1
			for _, time := range times(c, reading) { // in order
				n := callPassed(t, c, reading, time)
				if n > before {
					t.Errorf("Passed(%v, %d, %d): %d, but %d ahead of it", c, reading, time, n, before)
				}
				before = n
				if i+1 < len(list) {
					if later := callPassed(t, c, list[i+1], time); later < n {
						t.Errorf("%v, time %d: %d at %d, %d at %d", c, time, n, reading, later, list[i+1])
					}
				}
			}
		}
	}
}

// P4.4: at each reading of a long time.
func TestPassedOnce(t *testing.T) {
	for _, c := range []api.Clock{example, {Shown: 50, Error: 30, Drift: 100}, {Shown: 50}} {
		for _, time := range []int{-3, 0, 40, 51, 300, 1000} {
			before := -1
			for reading := c.Shown; reading < 2000; reading++ {
				n := callPassed(t, c, reading, time)
				if n < before {
					t.Errorf("%v, time %d: %d at %d, and then %d", c, time, before, reading-1, n)
				}
				before = n
			}
			if before != 1 {
				t.Errorf("%v, time %d: %d at the end", c, time, before)
			}
		}
	}
}

// P4.3 with P4.4: a time has surely come or surely not exactly if all true times say so.
func TestPassedByTimes(t *testing.T) {
	for _, c := range fewClocks() {
		for reading := c.Shown; reading <= min(c.Shown+60, last); reading++ {
			s := callTrue(t, c, reading)
			for time := reading - 80; time <= reading+80; time++ {
				come, not := true, true
				for m := s.From; m < s.Until; m++ {
					come, not = come && m >= time, not && m < time
				}
				if n := callPassed(t, c, reading, time); (n == 1) != come || (n == -1) != not {
					t.Errorf("Passed(%v, %d, %d): %d; true times %v", c, reading, time, n, s)
				}
			}
		}
	}
}

// moment is a reading of a clock.
type moment struct {
	c       api.Clock
	reading int
}

// moments are readings of clocks that are near to each other.
func moments() []moment {
	var list []moment
	for _, c := range fewClocks() {
		for _, d := range []int{0, 1, 2, 4, 5, 8, 10, 11, 15, 20, 21, 30} {
			if isReading(c, c.Shown+d) {
				list = append(list, moment{c, c.Shown + d})
			}
		}
	}
	return list
}

// P4.5: the sign, and readings of one clock.
func TestOrderSigns(t *testing.T) {
	for _, a := range moments() {
		for _, b := range moments() {
			n := callOrder(t, a.c, a.reading, b.c, b.reading)
			if back := callOrder(t, b.c, b.reading, a.c, a.reading); back != -n {
				t.Errorf("Order of %v and %v: %d, the other way %d", a, b, n, back)
			}
			if a.c == b.c && (n < 0 && a.reading >= b.reading || n > 0 && a.reading <= b.reading) {
				t.Errorf("Order of %v and %v: %d", a, b, n)
			}
		}
	}
	for _, c := range clocks() {
		list := readings(c)
		for i, x := range list {
			for _, y := range list[i:] {
				if n := callOrder(t, c, x, c, y); n > 0 || callOrder(t, c, y, c, x) != -n || x == y && n != 0 {
					t.Errorf("Order of %v at %d and %d: %d", c, x, y, n)
				}
			}
		}
	}
}

// P4.5: what is surely earlier than something surely earlier is so too.
func TestOrderTransitive(t *testing.T) {
	list := moments()
	earlier := make([][]bool, len(list))
	for i, a := range list {
		for _, b := range list {
			earlier[i] = append(earlier[i], callOrder(t, a.c, a.reading, b.c, b.reading) < 0)
		}
	}
	chains := 0
	for i := range list {
		for j := range list {
			for k := range list {
				if !earlier[i][j] || !earlier[j][k] {
					continue
				}
				chains++
				if !earlier[i][k] {
					t.Errorf("%v is earlier than %v, and that than %v", list[i], list[j], list[k])
				}
			}
		}
	}
	if chains < 5000 {
		t.Errorf("only %d chains", chains)
	}
}

// P4.6: all given times are true times at the reading, and with a smaller error one of them is not.
func TestSet(t *testing.T) {
	came := map[api.Errno]int{}
	minutes := []int{0, 1, 2, 10, 99, 100, 101, 1000, 1001, 1100, 1101, 300000, last - 1001, last - 1000, last - 999, last - 1, last}
	for _, reading := range minutes {
		for _, from := range minutes {
			for _, end := range minutes {
				if from > end {
					continue
				}
				c, e := clock.Set(example, reading, api.Span{From: from, Until: end + 1})
				came[e]++
				if e == api.OK {
					checkSet(t, c, reading, from, end)
				} else if hasTimes(t, api.Clock{Shown: reading, Error: mostError, Drift: 10}, from, end) || e != api.ErrRange || c != (api.Clock{}) {
					t.Errorf("Set at %d by %d to %d: %v, %v", reading, from, end, c, e)
				}
			}
		}
	}
	if came[api.OK] < 200 || came[api.ErrRange] < 1000 {
		t.Errorf("results: %v", came)
	}
}

// checkSet compares a clock that was set with the times by which it was.
func checkSet(t *testing.T, c api.Clock, reading, from, end int) {
	t.Helper()
	if !clock.Valid(c) || c.Shown != reading || c.Drift != 10 || !hasTimes(t, c, from, end) {
		t.Errorf("Set at %d by %d to %d: %v", reading, from, end, c)
	}
	smaller := c
	smaller.Error--
	if c.Error > 0 && hasTimes(t, smaller, from, end) {
		t.Errorf("Set at %d by %d to %d: %v, but %v is enough", reading, from, end, c, smaller)
	}
}

// hasTimes reports whether all times from one to another one are true when the clock was just set.
func hasTimes(t *testing.T, c api.Clock, from, end int) bool {
	t.Helper()
	s := callTrue(t, c, c.Shown)
	return within(s, from) && within(s, end)
}

// P4.6: a clock that is set by a better one has the true times of that one, unless these are too many.
func TestSetByTrue(t *testing.T) {
	for _, better := range fewClocks() {
		for _, reading := range readings(better) {
			s, want := callTrue(t, better, reading), api.OK
			if first, end := ends(better, reading); max(reading-first, end-reading) > mostError {
				want = api.ErrRange
			}
			c, e := clock.Set(api.Clock{Shown: 3, Error: 900, Drift: 20}, reading, s)
			if e != want {
				t.Errorf("Set at %d by %v: %v; want %v", reading, s, e, want)
			}
			if e == api.OK && !hasTimes(t, c, s.From, s.Until-1) {
				t.Errorf("Set at %d by %v: %v", reading, s, c)
			}
		}
	}
}

// wider are clocks that are worse than a clock, in one way or in both.
func wider(c api.Clock) []api.Clock {
	var list []api.Clock
	for _, more := range []int{0, 1, 40, mostError - c.Error} {
		for _, faster := range []int{0, 1, 13, mostDrift - c.Drift} {
			worse := api.Clock{Shown: c.Shown, Error: c.Error + more, Drift: c.Drift + faster}
			if worse.Error <= mostError && worse.Drift <= mostDrift {
				list = append(list, worse)
			}
		}
	}
	return list
}

// P4.7: the true times, and what has surely come or surely not.
func TestWider(t *testing.T) {
	for _, c := range clocks() {
		for _, worse := range wider(c) {
			for _, reading := range readings(c) {
				s, wide := callTrue(t, c, reading), callTrue(t, worse, reading)
				if wide.From > s.From || wide.Until < s.Until {
					t.Errorf("%v at %d: %v, %v: %v", c, reading, s, worse, wide)
				}
				for _, time := range []int{wide.From, wide.From + 1, s.From, s.From + 1, s.Until - 1, s.Until, wide.Until - 1, wide.Until} {
					if n := callPassed(t, worse, reading, time); n != 0 && n != callPassed(t, c, reading, time) {
						t.Errorf("%v at %d for %d: %d, but not of %v", worse, reading, time, n, c)
					}
				}
			}
		}
	}
}

// P4.7: what is surely earlier or later.
func TestWiderOrder(t *testing.T) {
	sure := 0
	for _, a := range moments() {
		for _, worse := range wider(a.c) {
			for _, b := range moments() {
				n := callOrder(t, worse, a.reading, b.c, b.reading)
				if n == 0 {
					continue
				}
				sure++
				if better := callOrder(t, a.c, a.reading, b.c, b.reading); better != n {
					t.Errorf("Order of %v at %d and %v: %d, of %v: %d", worse, a.reading, b, n, a, better)
				}
			}
		}
	}
	if sure < 5000 {
		t.Errorf("only %d are sure", sure)
	}
}
