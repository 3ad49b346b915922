package money_test

import (
	"math"
	"math/big"
	"regexp"
	"slices"
	"strings"
	"testing"

	"barcarole/api"
	"barcarole/money"
)

// P2.1, B1.
func TestAdd(t *testing.T) {
	for i, c := range []struct {
		list []int
		want int
		e    api.Errno
	}{
		{nil, 0, api.OK},
		{[]int{}, 0, api.OK},
		{[]int{0}, 0, api.OK},
		{[]int{-7}, -7, api.OK},
		{[]int{1205, -30, 5}, 1180, api.OK},
		{[]int{most}, most, api.OK},
		{[]int{-most}, -most, api.OK},
		{[]int{most - 1, 1}, most, api.OK},
		{[]int{-most + 1, -1}, -most, api.OK},
		{[]int{most, 1}, 0, api.ErrRange},
		{[]int{-most, -1}, 0, api.ErrRange},
		{[]int{most, 1, -1}, most, api.OK},
		{[]int{-most, -most, most, most}, 0, api.OK},
		{alike(100000, most), 0, api.ErrRange},
		{alike(100000, -most), 0, api.ErrRange},
		{append(alike(100000, most), alike(100000, -most)...), 0, api.OK},
		{[]int{most + 1}, 0, api.ErrArg},
		{[]int{most + 1, -1}, 0, api.ErrArg},
		{[]int{most, most, most + 1}, 0, api.ErrArg},
		{[]int{-most, -most, -most - 1}, 0, api.ErrArg},
		{[]int{math.MinInt, math.MinInt}, 0, api.ErrArg},
		{[]int{math.MaxInt, math.MinInt, 1}, 0, api.ErrArg},
		{[]int{1 << 62, 1 << 62, 1 << 62, 1 << 62}, 0, api.ErrArg},
	} {
		if sum, e := money.Add(c.list); sum != c.want || e != c.e {
			t.Errorf("case %d: %d, %v; want %d, %v", i, sum, e, c.want, c.e)
		}
	}
	for _, bad := range notAmounts {
		for _, list := range [][]int{{bad}, {bad, 1}, {1, bad}, {bad, -bad}, {most, bad, 1}, {most, 1, bad}} {
			if sum, e := money.Add(list); sum != 0 || e != api.ErrArg {
				t.Errorf("Add(%v): %d, %v", list, sum, e)
			}
		}
	}
}

// P2.1, B2: the nearest amount, wherever there is one.
func TestScale(t *testing.T) {
	for _, r := range numbers() {
		for _, cents := range amountsAround(r) {
			want, wrong := rounded(exact(cents, r))
			if got, e := money.Scale(cents, r); got != want || e != wrong {
				t.Errorf("Scale(%d, %v): %d, %v; want %d, %v", cents, r, got, e, want, wrong)
			}
		}
	}
}

// P2.1, B2: the examples, half a cent with either sign, and the limits.
func TestScaleCases(t *testing.T) {
	for _, c := range []struct {
		cents, n, d, want int
		e                 api.Errno
	}{
		{7, 1, 2, 4, api.OK}, {-7, 1, 2, -4, api.OK}, {4, 1, 3, 1, api.OK},
		{7, -1, 2, -4, api.OK}, {-7, -1, 2, 4, api.OK},
		{1, 1, 2, 1, api.OK}, {-1, 1, 2, -1, api.OK}, {5, 1, 2, 3, api.OK}, {-5, 1, 2, -3, api.OK}, {5, 1, 10, 1, api.OK}, {-15, 1, 10, -2, api.OK},
		{5, 1, 3, 2, api.OK}, {-5, 1, 3, -2, api.OK}, {-4, 1, 3, -1, api.OK}, {1, 1, 3, 0, api.OK}, {-1, 1, 3, 0, api.OK},
		{1, 499999999, most, 0, api.OK}, {1, 500000001, most, 1, api.OK}, {-1, 499999999, most, 0, api.OK}, {-1, 500000001, most, -1, api.OK},
		{most / 2, 1, most, 1, api.OK}, {-most / 2, 1, most, -1, api.OK}, {most/2 - 1, 1, most, 0, api.OK}, {1 - most/2, 1, most, 0, api.OK},
		{0, most, 1, 0, api.OK}, {most, 0, 1, 0, api.OK}, {-most, 0, 1, 0, api.OK},
		{1, most, 1, most, api.OK}, {-1, most, 1, -most, api.OK}, {most, 1, 1, most, api.OK}, {most, -1, 1, -most, api.OK},
		{most / 2, 2, 1, most, api.OK}, {most/2 + 1, 2, 1, 0, api.ErrRange}, {-most/2 - 1, 2, 1, 0, api.ErrRange},
		{most, most, 1, 0, api.ErrRange}, {-most, most, 1, 0, api.ErrRange}, {most, -most, 1, 0, api.ErrRange}, {-most, -most, 1, 0, api.ErrRange},
		{most - 1, most, most - 1, most, api.OK}, {most, most, most - 1, 0, api.ErrRange},
		{666666667, 3, 2, 0, api.ErrRange}, {-666666667, 3, 2, 0, api.ErrRange}, // half a cent above the limit
		{769230769, 13, 10, most, api.OK}, {888888889, 9, 8, most, api.OK}, {-888888889, 9, 8, -most, api.OK}, // an eighth of a cent above it
	} {
		if got, e := money.Scale(c.cents, api.Rat{N: c.n, D: c.d}); got != c.want || e != c.e {
			t.Errorf("Scale(%d, %d/%d): %d, %v; want %d, %v", c.cents, c.n, c.d, got, e, c.want, c.e)
		}
	}
}

// P2.1, B2: an argument that is wrong comes ahead of a result that is.
func TestScaleErrors(t *testing.T) {
	good := []api.Rat{{N: 0, D: 1}, {N: 1, D: 1}, {N: 1, D: most}, {N: most, D: 1}, {N: -most, D: 1}}
	for _, bad := range notAmounts {
		for _, r := range append(good, notNumbers...) {
			if got, e := money.Scale(bad, r); got != 0 || e != api.ErrArg {
				t.Errorf("Scale(%d, %v): %d, %v", bad, r, got, e)
			}
		}
	}
	for _, cents := range amounts() {
		for _, bad := range notNumbers {
			if got, e := money.Scale(cents, bad); got != 0 || e != api.ErrArg {
				t.Errorf("Scale(%d, %v): %d, %v", cents, bad, got, e)
			}
		}
	}
}

// parted is what the document requires of Split: cent by cent, to the first of
// the largest remainders that has not had one.
func parted(cents int, weights []int) []int {
	sign, total := 1, 0
	if cents < 0 {
		sign = -1
	}
	for _, w := range weights {
		total += w
	}
	var parts, rest []int
	missing := absolute(cents)
	for _, w := range weights {
		n := absolute(cents) * w
		parts, rest = append(parts, sign*(n/total)), append(rest, n%total)
		missing -= n / total
	}
	for ; missing > 0; missing-- {
		best := 0
		for i := range rest {
			if rest[i] > rest[best] {
				best = i
			}
		}
		parts[best] += sign
		rest[best] = -1
	}
	return parts
}

// P2.1, B3.
func TestSplit(t *testing.T) {
	for _, weights := range weightings() {
		for _, cents := range amounts() {
			if parts, want := split(t, cents, weights), parted(cents, weights); !slices.Equal(parts, want) {
				t.Errorf("Split(%d, %v): %v; want %v", cents, weights, parts, want)
			}
		}
	}
}

// P2.1, B3: the examples, equal remainders and different ones with either sign, and the limits.
func TestSplitCases(t *testing.T) {
	for _, c := range []struct {
		cents         int
		weights, want []int
	}{
		{100, []int{1, 1, 1}, []int{34, 33, 33}},
		{-100, []int{1, 1, 1}, []int{-34, -33, -33}},
		{5, []int{1, 2, 3}, []int{1, 2, 2}},
		{-5, []int{1, 2, 3}, []int{-1, -2, -2}},
		{0, []int{1, 2, 3}, []int{0, 0, 0}},
		{2, []int{1, 1, 1}, []int{1, 1, 0}},
		{-2, []int{1, 1, 1}, []int{-1, -1, 0}},
		{1, []int{0, 1, 1, 0, 1}, []int{0, 1, 0, 0, 0}},
		{1, []int{2, 3}, []int{0, 1}},
		{-1, []int{2, 3}, []int{0, -1}},
		{10, []int{3, 1, 3}, []int{4, 2, 4}},    // remainders 2, 3, 2 of 7
		{8, []int{3, 1, 3}, []int{4, 1, 3}},     // remainders 3, 1, 3 of 7
		{-8, []int{3, 1, 3}, []int{-4, -1, -3}}, // of equal ones the first, below 0 too
		{7, []int{5}, []int{7}},
		{most, []int{1}, []int{most}},
		{-most, []int{0, heavy}, []int{0, -most}},
		{most, []int{heavy, heavy, heavy}, []int{333333334, 333333333, 333333333}},
		{-most, []int{heavy, heavy - 1}, []int{-500000250, -499999750}},
		{most, []int{heavy, 1}, []int{999999000, 1000}},
		{65, alike(64, heavy), append([]int{2}, alike(63, 1)...)},
		{-63, alike(64, 1), append(alike(63, -1), 0)},
	} {
		if parts := split(t, c.cents, c.weights); !slices.Equal(parts, c.want) {
			t.Errorf("Split(%d, %v): %v; want %v", c.cents, c.weights, parts, c.want)
		}
	}
}

// P2.1, B3.
func TestSplitErrors(t *testing.T) {
	for _, bad := range notAmounts {
		for _, weights := range [][]int{{1}, {1, 2}, {0}, nil} {
			if parts, e := money.Split(bad, weights); len(parts) != 0 || e != api.ErrArg {
				t.Errorf("Split(%d, %v): %v, %v", bad, weights, parts, e)
			}
		}
	}
	for _, weights := range [][]int{
		nil, {}, alike(65, 1), alike(65, 0), append(alike(64, 1), 0), alike(1000, heavy),
		{0}, {0, 0}, alike(64, 0), {-1}, {-1, 2}, {2, -1}, {1, -1}, {heavy + 1}, {1, heavy + 1}, {heavy + 1, 1}, {0, heavy + 1, 0},
		{math.MinInt}, {math.MaxInt}, {math.MinInt, math.MinInt}, {math.MaxInt, math.MaxInt, 3}, {math.MinInt, math.MaxInt, 2}, {1 << 62, 1 << 62, 1 << 62, 1 << 62, 1}, {1<<32 + 1}, {-1 << 32},
	} {
		for _, cents := range []int{0, 1, -1, 100, most, -most} {
			if parts, e := money.Split(cents, weights); len(parts) != 0 || e != api.ErrArg {
				t.Errorf("Split(%d, %v): %v, %v", cents, weights, parts, e)
			}
		}
	}
}

// P2.1: no argument is changed, and a result is new memory.
func TestArgumentsStay(t *testing.T) {
	list := []int{3, 1, 2, 0, 3}
	if sum, e := money.Add(list); sum != 9 || e != api.OK {
		t.Error(sum, e)
	}
	parts := split(t, 10, list)
	for i := range parts {
		parts[i] = -99
	}
	if !slices.Equal(list, []int{3, 1, 2, 0, 3}) {
		t.Error(list)
	}
	if again := split(t, 10, list); !slices.Equal(again, []int{4, 1, 2, 0, 3}) {
		t.Error(again)
	}
}

// exchanged is what the document requires of Exchange.
func exchanged(cents, from, to int, rate api.Rat) (int, api.Errno) {
	switch {
	case from == to:
		return cents, api.OK
	case from == api.Franc:
		return rounded(exact(cents, rate))
	default:
		return rounded(exact(cents, inverse(rate)))
	}
}

// P2.1, B4.
func TestExchange(t *testing.T) {
	for _, rate := range positives() {
		for _, cents := range append(amountsAround(rate), amountsAround(inverse(rate))...) {
			for _, from := range []int{api.Franc, api.Euro} {
				for _, to := range []int{api.Franc, api.Euro} {
					want, wrong := exchanged(cents, from, to, rate)
					if got, e := money.Exchange(cents, from, to, rate); got != want || e != wrong {
						t.Errorf("Exchange(%d, %d, %d, %v): %d, %v; want %d, %v", cents, from, to, rate, got, e, want, wrong)
					}
				}
			}
		}
	}
}

// P2.1, B4: the examples, and the limits.
func TestExchangeCases(t *testing.T) {
	for _, c := range []struct {
		cents, from, to, n, d, want int
		e                           api.Errno
	}{
		{1000, api.Franc, api.Euro, 19, 20, 950, api.OK},
		{95, api.Euro, api.Franc, 19, 20, 100, api.OK},
		{-1000, api.Franc, api.Euro, 19, 20, -950, api.OK},
		{-95, api.Euro, api.Franc, 19, 20, -100, api.OK},
		{10, api.Franc, api.Euro, 19, 20, 10, api.OK},
		{-10, api.Franc, api.Euro, 19, 20, -10, api.OK},
		{1, api.Euro, api.Franc, 2, 1, 1, api.OK},
		{-1, api.Euro, api.Franc, 2, 1, -1, api.OK},
		{1234, api.Franc, api.Franc, 19, 20, 1234, api.OK},
		{-1234, api.Euro, api.Euro, 19, 20, -1234, api.OK},
		{most, api.Franc, api.Franc, most, 1, most, api.OK},
		{-most, api.Euro, api.Euro, 1, most, -most, api.OK},
		{1, api.Franc, api.Euro, 1, most, 0, api.OK},
		{1, api.Euro, api.Franc, 1, most, most, api.OK},
		{2, api.Euro, api.Franc, 1, most, 0, api.ErrRange},
		{-1, api.Franc, api.Euro, most, 1, -most, api.OK},
		{-2, api.Franc, api.Euro, most, 1, 0, api.ErrRange},
		{most, api.Euro, api.Franc, most, 1, 1, api.OK},
		{most/2 - 1, api.Euro, api.Franc, most, 1, 0, api.OK},
		{most, api.Franc, api.Euro, 2, 1, 0, api.ErrRange},
		{most, api.Euro, api.Franc, 2, 1, most / 2, api.OK},
		{most, api.Euro, api.Franc, 1, 2, 0, api.ErrRange},
	} {
		if got, e := money.Exchange(c.cents, c.from, c.to, api.Rat{N: c.n, D: c.d}); got != c.want || e != c.e {
			t.Errorf("Exchange(%d, %d, %d, %d/%d): %d, %v; want %d, %v", c.cents, c.from, c.to, c.n, c.d, got, e, c.want, c.e)
		}
	}
}

func checkNoExchange(t *testing.T, cents, from, to int, rate api.Rat) {
	t.Helper()
	if got, e := money.Exchange(cents, from, to, rate); got != 0 || e != api.ErrArg {
		t.Errorf("Exchange(%d, %d, %d, %v): %d, %v", cents, from, to, rate, got, e)
	}
}

// P2.1, B4: an argument that is wrong comes ahead of a result that is; the rate counts in the same currency too.
func TestExchangeErrors(t *testing.T) {
	rates := []api.Rat{{N: 1, D: 1}, {N: most, D: 1}, {N: 1, D: most}}
	notRates := append([]api.Rat{{N: 0, D: 1}, {N: -1, D: 1}, {N: -19, D: 20}, {N: -most, D: 1}, {N: -1, D: most}}, notNumbers...)
	for _, from := range []int{api.Franc, api.Euro} {
		for _, to := range []int{api.Franc, api.Euro} {
			for _, bad := range notAmounts {
				for _, rate := range append(rates, notRates...) {
					checkNoExchange(t, bad, from, to, rate)
				}
			}
			for _, cents := range []int{0, 1, 1000, most, -most} {
				for _, bad := range notRates {
					checkNoExchange(t, cents, from, to, bad)
				}
			}
		}
		for _, bad := range notCurrencies {
			for _, cents := range []int{0, 1, 1000, most, -most, most + 1} {
				for _, rate := range append(rates, notRates...) {
					checkNoExchange(t, cents, from, bad, rate)
					checkNoExchange(t, cents, bad, from, rate)
					checkNoExchange(t, cents, bad, bad, rate)
				}
			}
		}
	}
}

// P2.1, B5.
func TestText(t *testing.T) {
	for _, c := range []struct {
		cents, currency int
		want            string
	}{
		{1205, api.Franc, "CHF 12.05"}, {-30, api.Euro, "EUR -0.30"},
		{0, api.Franc, "CHF 0.00"}, {0, api.Euro, "EUR 0.00"}, {1, api.Franc, "CHF 0.01"}, {-1, api.Franc, "CHF -0.01"}, {9, api.Euro, "EUR 0.09"}, {10, api.Euro, "EUR 0.10"},
		{99, api.Franc, "CHF 0.99"}, {100, api.Franc, "CHF 1.00"}, {-100, api.Euro, "EUR -1.00"}, {-1205, api.Euro, "EUR -12.05"}, {1010, api.Franc, "CHF 10.10"}, {123456, api.Euro, "EUR 1234.56"},
		{most, api.Franc, "CHF 10000000.00"}, {-most, api.Euro, "EUR -10000000.00"}, {most - 1, api.Euro, "EUR 9999999.99"}, {1 - most, api.Franc, "CHF -9999999.99"},
	} {
		if s, e := money.Text(c.cents, c.currency); s != c.want || e != api.OK {
			t.Errorf("Text(%d, %d): %q, %v; want %q", c.cents, c.currency, s, e, c.want)
		}
	}
	for _, currency := range append([]int{api.Franc, api.Euro}, notCurrencies...) {
		for _, bad := range notAmounts {
			if s, e := money.Text(bad, currency); s != "" || e != api.ErrArg {
				t.Errorf("Text(%d, %d): %q, %v", bad, currency, s, e)
			}
		}
	}
	for _, bad := range notCurrencies {
		for _, cents := range amounts() {
			if s, e := money.Text(cents, bad); s != "" || e != api.ErrArg {
				t.Errorf("Text(%d, %d): %q, %v", cents, bad, s, e)
			}
		}
	}
}

// textForm is the form of a text, for any integer, but that it lets -0.00 pass.
var textForm = regexp.MustCompile(`^(CHF|EUR) (-?(?:0|[1-9][0-9]*))\.([0-9]{2})$`)

// parsed is what the document requires of Parse.
func parsed(s string) (int, int, api.Errno) {
	match := textForm.FindStringSubmatch(s)
	if match == nil || strings.HasSuffix(s, " -0.00") {
		return 0, 0, api.ErrForm
	}
	cents, ok := new(big.Int).SetString(match[2]+match[3], 10)
	if !ok || cents.CmpAbs(big.NewInt(most)) > 0 {
		return 0, 0, api.ErrRange
	}
	if match[1] == "EUR" {
		return int(cents.Int64()), api.Euro, api.OK
	}
	return int(cents.Int64()), api.Franc, api.OK
}

func checkParse(t *testing.T, s string) {
	t.Helper()
	want, currency, wrong := parsed(s)
	if cents, c, e := money.Parse(s); cents != want || c != currency || e != wrong {
		t.Errorf("Parse(%.60q): %d, %d, %v; want %d, %d, %v", s, cents, c, e, want, currency, wrong)
	}
}

// P2.1, B6: all short strings, alone and behind a currency.
func TestParseShort(t *testing.T) {
	texts := []string{""}
	for range 7 {
		var longer []string
		for _, s := range texts {
			checkParse(t, s)
			checkParse(t, "CHF "+s)
			checkParse(t, "EUR "+s)
			for _, c := range "-+.019 " {
				longer = append(longer, s+string(c))
			}
		}
		texts = longer
	}
}

// P2.1, B6: the strings that the document names, and those that a freer reader would take.
func TestParseForm(t *testing.T) {
	for _, s := range []string{
		"CHF -0.00", "EUR -0.00", "CHF 00.10", "CHF +1.00", "1.00",
		"", " ", "CHF", "CHF ", "EUR ", "CHF1.00", "CHF  1.00", " CHF 1.00", "CHF 1.00 ", "CHF 1.00\n", "CHF\t1.00", "CHF\u00a01.00", "CHF 1.00\x00", "\ufeffCHF 1.00",
		"chf 1.00", "Chf 1.00", "eur 1.00", "USD 1.00", "CHFEUR 1.00", "CHF EUR 1.00", "CHF CHF 1.00", "CH 1.00", "CHFF 1.00", "1.00 CHF", "CHF-1.00", "-CHF 1.00", "€ 1.00",
		"CHF 1", "CHF 1.", "CHF 1.0", "CHF 1.000", "CHF .50", "CHF -.50", "CHF 1,00", "CHF 1'000.00", "CHF 1_0.00", "CHF 1.0_", "CHF 1..00", "CHF 1.0.0", "CHF 1.00.00", "CHF .", "CHF -", "CHF -.", "CHF ..",
		"CHF --1.00", "CHF -+1.00", "CHF +-1.00", "CHF - 1.00", "CHF 1-.00", "CHF 1.-1", "CHF 1.+1", "CHF 1.0-", "CHF +0.00", "CHF -00.01", "CHF 01.00", "CHF -01.00", "CHF 000.00", "CHF 00.00",
		"CHF 0x1.00", "CHF 1e2.00", "CHF 1.e2", "CHF 1.0e", "CHF Inf", "CHF NaN", "CHF a.00", "CHF 1.0a", "CHF 1.a0", "CHF \u0661.00", "CHF 1.\u0660\u0660", "CHF \uff11.00", "CHF \u22121.00", "CHF 1.½", "CHF 1.é", "CHF \xff.00",
		"CHF 00000000000000000000000000.00", "CHF 0" + strings.Repeat("9", 30) + ".00", "CHF " + strings.Repeat("9", 30), "CHF " + strings.Repeat("9", 30) + ".0", "CHF " + strings.Repeat("9", 30) + ".0a",
		"CHF " + strings.Repeat("-", 1000) + "1.00", "CHF " + strings.Repeat(".", 1000), strings.Repeat("CHF ", 1000) + "1.00",
	} {
		checkParse(t, s)
		if cents, currency, e := money.Parse(s); cents != 0 || currency != 0 || e != api.ErrForm {
			t.Errorf("Parse(%.60q): %d, %d, %v", s, cents, currency, e)
		}
	}
}

// P2.1, B6: integers that are amounts, and integers that are not, however long.
func TestParseRange(t *testing.T) {
	for _, c := range []struct {
		s    string
		want int
		e    api.Errno
	}{
		{"0.00", 0, api.OK}, {"0.01", 1, api.OK}, {"-0.01", -1, api.OK}, {"-0.30", -30, api.OK}, {"12.05", 1205, api.OK}, {"0.09", 9, api.OK}, {"10.00", 1000, api.OK},
		{"10000000.00", most, api.OK}, {"-10000000.00", -most, api.OK}, {"9999999.99", most - 1, api.OK}, {"-9999999.99", 1 - most, api.OK},
		{"10000000.01", 0, api.ErrRange}, {"-10000000.01", 0, api.ErrRange}, {"10000001.00", 0, api.ErrRange}, {"99999999.99", 0, api.ErrRange}, {"100000000.00", 0, api.ErrRange},
		{"42949672.96", 0, api.ErrRange}, {"42949673.01", 0, api.ErrRange}, {"-42949672.96", 0, api.ErrRange},
		{"92233720368547758.07", 0, api.ErrRange}, {"92233720368547758.08", 0, api.ErrRange}, {"-92233720368547758.08", 0, api.ErrRange}, {"-92233720368547758.09", 0, api.ErrRange},
		{"184467440737095516.16", 0, api.ErrRange}, {"184467440737095516.17", 0, api.ErrRange}, {"-184467440737095516.17", 0, api.ErrRange},
		{strings.Repeat("9", 100000) + ".99", 0, api.ErrRange}, {"-1" + strings.Repeat("0", 100000) + ".00", 0, api.ErrRange},
	} {
		for currency, name := range []string{"CHF ", "EUR "} {
			checkParse(t, name+c.s)
			if c.e != api.OK {
				currency = 0
			}
			if cents, k, e := money.Parse(name + c.s); cents != c.want || k != currency || e != c.e {
				t.Errorf("Parse(%.60q): %d, %d, %v; want %d, %d, %v", name+c.s, cents, k, e, c.want, currency, c.e)
			}
		}
	}
}
