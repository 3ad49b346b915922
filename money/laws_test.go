package money_test

import (
	"math/big"
	"slices"
	"testing"

	"barcarole/api"
	"barcarole/money"
)

var (
	one  = api.Rat{N: 1, D: 1}
	half = big.NewRat(1, 2)
)

// orders calls visit with each order of a list.
func orders(list []int, visit func([]int)) {
	var fill func(done, rest []int)
	fill = func(done, rest []int) {
		if len(rest) == 0 {
			visit(done)
		}
		for i := range rest {
			fill(append(slices.Clone(done), rest[i]), slices.Delete(slices.Clone(rest), i, i+1))
		}
	}
	fill(nil, list)
}

// P2.2: be the result an amount or an error.
func TestOrderOfSum(t *testing.T) {
	for _, list := range [][]int{
		{1, -2, 30, 1205, -7}, {most, most, -most, -most, 1}, {most, most, -most, 5, -5}, {most - 1, 1, most, -most, 0}, {-most, -1, 2, most, -most},
		{most, 1, 0, 0, 0}, {-most, -most, 3, 4, 5}, {most, most, -most, 1, 0}, {most + 1, most, -most, 1, 0}, {-most - 1, -most, 1, most, 7},
	} {
		want, wrong := money.Add(list)
		orders(list, func(other []int) {
			if sum, e := money.Add(other); sum != want || e != wrong {
				t.Errorf("Add(%v): %d, %v; Add(%v): %d, %v", list, want, wrong, other, sum, e)
			}
		})
	}
}

// P2.2.
func TestNegativeOfSum(t *testing.T) {
	for _, cents := range amounts() {
		for _, list := range [][]int{{cents, -cents}, {cents, cents, -cents, -cents}} {
			if sum, e := money.Add(list); sum != 0 || e != api.OK {
				t.Errorf("Add(%v): %d, %v", list, sum, e)
			}
		}
	}
}

// P2.3: half a cent at most; with an error only where no amount is that near.
func TestScaleIsNear(t *testing.T) {
	held := 0
	for _, r := range numbers() {
		for _, cents := range amountsAround(r) {
			x := exact(cents, r)
			scaled, e := money.Scale(cents, r)
			if e != api.OK {
				if new(big.Rat).Abs(x).Cmp(big.NewRat(2*most+1, 2)) < 0 {
					t.Errorf("Scale(%d, %v): %v", cents, r, e)
				}
				continue
			}
			held++
			if apart(scaled, x).Cmp(half) > 0 {
				t.Errorf("Scale(%d, %v): %d", cents, r, scaled)
			}
		}
	}
	if held < 5000 {
		t.Errorf("only %d amounts were scaled", held)
	}
}

// P2.3: of the amount, or of the number.
func TestScaleAndSign(t *testing.T) {
	for _, r := range numbers() {
		for _, cents := range amountsAround(r) {
			scaled, e := money.Scale(cents, r)
			if negative, f := money.Scale(-cents, r); negative != -scaled || f != e {
				t.Errorf("Scale(%d, %v): %d, %v; negative: %d, %v", cents, r, scaled, e, negative, f)
			}
			if negative, f := money.Scale(cents, api.Rat{N: -r.N, D: r.D}); negative != -scaled || f != e {
				t.Errorf("Scale(%d, %v): %d, %v; by the negative: %d, %v", cents, r, scaled, e, negative, f)
			}
		}
	}
}

// P2.3.
func TestScaleByOne(t *testing.T) {
	for _, cents := range amountsAround(one) {
		if scaled, e := money.Scale(cents, one); scaled != cents || e != api.OK {
			t.Errorf("Scale(%d, 1): %d, %v", cents, scaled, e)
		}
	}
}

// checkRising finds whether a greater amount leads to a smaller one.
func checkRising(t *testing.T, name string, list []int, call func(cents int) (int, api.Errno)) {
	t.Helper()
	slices.Sort(list)
	last, held := -most, 0
	for _, cents := range list {
		next, e := call(cents)
		if e != api.OK {
			continue
		}
		held++
		if next < last {
			t.Errorf("%s: %d leads to %d, and what is less to %d", name, cents, next, last)
		}
		last = next
	}
	if held < 3 {
		t.Errorf("%s: only %d results", name, held)
	}
}

// P2.4.
func TestScaleKeepsOrder(t *testing.T) {
	for _, r := range append(positives(), api.Rat{N: 0, D: 1}) {
		checkRising(t, "Scale", amountsAround(r), func(cents int) (int, api.Errno) { return money.Scale(cents, r) })
	}
}

// P2.5: the sum, less than a cent from the exact part, the sign, nothing for nothing, and not less for a greater weight.
func TestParts(t *testing.T) {
	for _, weights := range weightings() {
		total := 0
		for _, w := range weights {
			total += w
		}
		for _, cents := range amounts() {
			parts := split(t, cents, weights)
			left := cents
			for i, part := range parts {
				left -= part
				if apart(part, exact(cents, api.Rat{N: weights[i], D: total})).Cmp(big.NewRat(1, 1)) >= 0 {
					t.Errorf("Split(%d, %v): %d is a cent away", cents, weights, part)
				}
				if part > 0 && cents < 0 || part < 0 && cents > 0 {
					t.Errorf("Split(%d, %v): %d has the other sign", cents, weights, part)
				}
				if weights[i] == 0 && part != 0 {
					t.Errorf("Split(%d, %v): %d for nothing", cents, weights, part)
				}
				for j, other := range parts {
					if weights[i] > weights[j] && absolute(part) < absolute(other) {
						t.Errorf("Split(%d, %v): %d for more than %d", cents, weights, part, other)
					}
				}
			}
			if left != 0 {
				t.Errorf("Split(%d, %v): %d is left", cents, weights, left)
			}
		}
	}
}

// P2.6.
func TestRemainders(t *testing.T) {
	held := 0
	for _, weights := range weightings() {
		total := 0
		for _, w := range weights {
			total += w
		}
		for _, cents := range amounts() {
			parts := split(t, cents, weights)
			for i, up := range parts {
				if absolute(up)*total <= absolute(cents)*weights[i] {
					continue
				}
				for j, down := range parts {
					if absolute(down)*total > absolute(cents)*weights[j] {
						continue
					}
					held++
					a, b := absolute(cents)*weights[i]%total, absolute(cents)*weights[j]%total
					if a < b || a == b && i > j {
						t.Errorf("Split(%d, %v): %v, where part %d was rounded up, and part %d was not", cents, weights, parts, i, j)
					}
				}
			}
		}
	}
	if held < 10000 {
		t.Errorf("only %d pairs of parts were rounded differently", held)
	}
}

// P2.7: each amount has a text of its own, which is read as that amount.
func TestTextIsParsed(t *testing.T) {
	texts := map[string][2]int{}
	list := amounts()
	slices.Sort(list)
	for cents := -2100; cents <= 2100; cents++ {
		list = append(list, cents)
	}
	slices.Sort(list)
	for _, cents := range slices.Compact(list) {
		for _, currency := range []int{api.Franc, api.Euro} {
			s, e := money.Text(cents, currency)
			if e != api.OK {
				t.Errorf("Text(%d, %d): %v", cents, currency, e)
			}
			if n, c, f := money.Parse(s); n != cents || c != currency || f != api.OK {
				t.Errorf("Parse(%q): %d, %d, %v; want %d, %d", s, n, c, f, cents, currency)
			}
			if other, ok := texts[s]; ok {
				t.Errorf("%d of %d and %d of %d have the text %q", cents, currency, other[0], other[1], s)
			}
			texts[s] = [2]int{cents, currency}
		}
	}
}

// checkTextOfParsed finds whether a string, if it is read at all, is the text of what was read.
func checkTextOfParsed(t *testing.T, s string) bool {
	t.Helper()
	cents, currency, e := money.Parse(s)
	if e != api.OK {
		return false
	}
	if again, f := money.Text(cents, currency); again != s || f != api.OK {
		t.Errorf("%q is read as %d of %d, whose text is %q, %v", s, cents, currency, again, f)
	}
	return true
}

// P2.7: what is read is the text of an amount, for each string with all bytes at each place in turn.
func TestParsedIsText(t *testing.T) {
	held := 0
	for _, s := range []string{"CHF 12.05", "EUR -0.30", "CHF 0.00", "EUR 10000000.00", "CHF -9999999.99", "EUR 0.01"} {
		if !checkTextOfParsed(t, s) {
			t.Errorf("%q is not read", s)
		}
		for i := range len(s) + 1 {
			for b := range 256 {
				c := string([]byte{byte(b)})
				if checkTextOfParsed(t, s[:i]+c+s[i:]) || i < len(s) && checkTextOfParsed(t, s[:i]+c+s[i+1:]) {
					held++
				}
			}
			if i < len(s) {
				checkTextOfParsed(t, s[:i]+s[i+1:])
			}
		}
	}
	if held < 100 {
		t.Errorf("only %d strings were read", held)
	}
}

// directions are the ways from one currency into the other.
var directions = [][2]int{{api.Franc, api.Euro}, {api.Euro, api.Franc}}

// P2.8.
func TestExchangeAndSign(t *testing.T) {
	for _, rate := range positives() {
		for _, way := range append(directions, [2]int{api.Franc, api.Franc}, [2]int{api.Euro, api.Euro}) {
			for _, cents := range append(amountsAround(rate), amountsAround(inverse(rate))...) {
				there, e := money.Exchange(cents, way[0], way[1], rate)
				if negative, f := money.Exchange(-cents, way[0], way[1], rate); negative != -there || f != e {
					t.Errorf("Exchange(%d, %v, %v): %d, %v; negative: %d, %v", cents, way, rate, there, e, negative, f)
				}
			}
		}
	}
}

// P2.8.
func TestExchangeKeepsOrder(t *testing.T) {
	for _, rate := range positives() {
		for _, way := range append(directions, [2]int{api.Franc, api.Franc}, [2]int{api.Euro, api.Euro}) {
			list := append(amountsAround(rate), amountsAround(inverse(rate))...)
			checkRising(t, "Exchange", list, func(cents int) (int, api.Errno) { return money.Exchange(cents, way[0], way[1], rate) })
		}
	}
}

// P2.8: half a cent, and half of what a cent of the other currency is worth.
func TestThereAndBack(t *testing.T) {
	held := 0
	for _, rate := range positives() {
		worth := big.NewRat(int64(rate.D), int64(rate.N))
		bound := new(big.Rat).Add(half, new(big.Rat).Mul(half, worth))
		for _, cents := range append(amountsAround(rate), amountsAround(inverse(rate))...) {
			there, e := money.Exchange(cents, api.Franc, api.Euro, rate)
			back, f := money.Exchange(there, api.Euro, api.Franc, rate)
			if e != api.OK || f != api.OK {
				continue
			}
			held++
			if apart(back, new(big.Rat).SetInt64(int64(cents))).Cmp(bound) > 0 {
				t.Errorf("%d francs are %d euros at %v, and these %d francs", cents, there, rate, back)
			}
		}
	}
	if held < 3000 {
		t.Errorf("only %d amounts went there and back", held)
	}
}
