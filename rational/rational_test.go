package rational_test

import (
	"math"
	"math/big"
	"regexp"
	"strconv"
	"strings"
	"testing"

	"barcarole/api"
	"barcarole/rational"
)

// P1.1, A1.
func TestValid(t *testing.T) {
	for _, r := range numbers() {
		if !rational.Valid(r) {
			t.Errorf("Valid(%v) is false", r)
		}
	}
	for _, r := range notNumbers {
		if rational.Valid(r) {
			t.Errorf("Valid(%v) is true", r)
		}
	}
	for n := -30; n <= 30; n++ {
		for d := -30; d <= 30; d++ {
			r := api.Rat{N: n, D: d}
			if want := d > 0 && coprime(n, d); rational.Valid(r) != want {
				t.Errorf("Valid(%v) is %v", r, !want)
			}
		}
	}
}

// P1.1, A2.
func TestMake(t *testing.T) {
	for _, c := range []struct {
		n, d int
		want api.Rat
		e    api.Errno
	}{
		{6, -4, api.Rat{N: -3, D: 2}, api.OK},
		{-6, -4, api.Rat{N: 3, D: 2}, api.OK},
		{0, 5, zero, api.OK},
		{0, math.MinInt, zero, api.OK},
		{0, math.MaxInt, zero, api.OK},
		{0, 0, api.Rat{}, api.ErrZero},
		{1, 0, api.Rat{}, api.ErrZero},
		{most + 1, 0, api.Rat{}, api.ErrZero},
		{math.MinInt, 0, api.Rat{}, api.ErrZero},
		{most, 1, api.Rat{N: most, D: 1}, api.OK},
		{most, -1, api.Rat{N: -most, D: 1}, api.OK},
		{most + 1, 1, api.Rat{}, api.ErrRange},
		{-most - 1, 1, api.Rat{}, api.ErrRange},
		{-most - 1, -1, api.Rat{}, api.ErrRange},
		{1, most, api.Rat{N: 1, D: most}, api.OK},
		{1, -most, api.Rat{N: -1, D: most}, api.OK},
		{1, most + 1, api.Rat{}, api.ErrRange},
		{1, -most - 1, api.Rat{}, api.ErrRange},
		{2 * most, 2, api.Rat{N: most, D: 1}, api.OK},
		{3, 3 * most, api.Rat{N: 1, D: most}, api.OK},
		{math.MinInt, math.MinInt, api.Rat{N: 1, D: 1}, api.OK},
		{math.MinInt, 1 << 62, api.Rat{N: -2, D: 1}, api.OK},
		{1 << 62, math.MinInt, api.Rat{N: -1, D: 2}, api.OK},
		{math.MinInt, -1 << 40, api.Rat{N: 1 << 23, D: 1}, api.OK},
		{math.MinInt, 1, api.Rat{}, api.ErrRange},
		{math.MinInt, -1, api.Rat{}, api.ErrRange},
		{1, math.MinInt, api.Rat{}, api.ErrRange},
		{math.MinInt, math.MaxInt, api.Rat{}, api.ErrRange},
		{math.MaxInt, math.MaxInt, api.Rat{N: 1, D: 1}, api.OK},
		{-math.MaxInt, math.MaxInt, api.Rat{N: -1, D: 1}, api.OK},
	} {
		if r, e := rational.Make(c.n, c.d); r != c.want || e != c.e {
			t.Errorf("Make(%d, %d): %v, %v; want %v, %v", c.n, c.d, r, e, c.want, c.e)
		}
	}
}

// P1.1, A3: the values, with ErrRange wherever no number has the value.
func TestOperations(t *testing.T) {
	for _, c := range []struct {
		name   string
		call   operation
		oracle func(z, a, b *big.Rat) *big.Rat
	}{
		{"Add", rational.Add, (*big.Rat).Add},
		{"Sub", rational.Sub, (*big.Rat).Sub},
		{"Mul", rational.Mul, (*big.Rat).Mul},
		{"Div", rational.Div, (*big.Rat).Quo},
	} {
		for _, a := range numbers() {
			for _, b := range numbers() {
				if c.name == "Div" && b == zero {
					continue
				}
				want, e := number(c.oracle(new(big.Rat), value(a), value(b)))
				if r, f := c.call(a, b); r != want || f != e {
					t.Errorf("%s(%v, %v): %v, %v; want %v, %v", c.name, a, b, r, f, want, e)
				}
			}
		}
	}
}

// P1.1, A3: the examples, and the errors in their order.
func TestOperationErrors(t *testing.T) {
	for i, c := range []struct {
		call operation
		a, b api.Rat
		want api.Rat
		e    api.Errno
	}{
		{rational.Add, api.Rat{N: 1, D: 2}, api.Rat{N: 1, D: 3}, api.Rat{N: 5, D: 6}, api.OK},
		{rational.Mul, api.Rat{N: most, D: 1}, api.Rat{N: 2, D: 1}, api.Rat{}, api.ErrRange},
		{rational.Add, api.Rat{N: most, D: 1}, api.Rat{N: 1, D: most}, api.Rat{}, api.ErrRange},
		{rational.Sub, api.Rat{N: -most, D: 1}, api.Rat{N: 1, D: 1}, api.Rat{}, api.ErrRange},
		{rational.Div, api.Rat{N: 1, D: most}, api.Rat{N: 2, D: 1}, api.Rat{}, api.ErrRange},
		{rational.Div, api.Rat{N: 1, D: 2}, zero, api.Rat{}, api.ErrZero},
		{rational.Div, zero, zero, api.Rat{}, api.ErrZero},
		{rational.Div, api.Rat{N: most, D: 1}, zero, api.Rat{}, api.ErrZero},
		{rational.Div, api.Rat{N: 2, D: 4}, zero, api.Rat{}, api.ErrArg},
		{rational.Div, api.Rat{N: 1, D: 2}, api.Rat{N: 0, D: 2}, api.Rat{}, api.ErrArg},
	} {
		if r, e := c.call(c.a, c.b); r != c.want || e != c.e {
			t.Errorf("case %d: %v, %v; want %v, %v", i, r, e, c.want, c.e)
		}
	}
	for i, call := range []operation{rational.Add, rational.Sub, rational.Mul, rational.Div} {
		for _, bad := range notNumbers {
			for _, other := range append(numbers(), bad) {
				if r, e := call(bad, other); r != (api.Rat{}) || e != api.ErrArg {
					t.Errorf("operation %d of %v, %v: %v, %v", i, bad, other, r, e)
				}
				if r, e := call(other, bad); r != (api.Rat{}) || e != api.ErrArg {
					t.Errorf("operation %d of %v, %v: %v, %v", i, other, bad, r, e)
				}
			}
		}
	}
}

// P1.1, A4.
func TestCmp(t *testing.T) {
	for _, a := range numbers() {
		for _, b := range numbers() {
			if order, e := rational.Cmp(a, b); order != value(a).Cmp(value(b)) || e != api.OK {
				t.Errorf("Cmp(%v, %v): %d, %v", a, b, order, e)
			}
		}
		for _, bad := range notNumbers {
			if order, e := rational.Cmp(a, bad); order != 0 || e != api.ErrArg {
				t.Errorf("Cmp(%v, %v): %d, %v", a, bad, order, e)
			}
			if order, e := rational.Cmp(bad, a); order != 0 || e != api.ErrArg {
				t.Errorf("Cmp(%v, %v): %d, %v", bad, a, order, e)
			}
		}
	}
}

// P1.1, A5.
func TestFloor(t *testing.T) {
	for _, c := range []struct {
		a    api.Rat
		want int
	}{
		{api.Rat{N: -3, D: 2}, -2}, {api.Rat{N: 3, D: 2}, 1}, {api.Rat{N: -4, D: 1}, -4}, {api.Rat{N: 4, D: 1}, 4}, {zero, 0},
		{api.Rat{N: 1, D: most}, 0}, {api.Rat{N: -1, D: most}, -1}, {api.Rat{N: most - 1, D: most}, 0}, {api.Rat{N: 1 - most, D: most}, -1},
		{api.Rat{N: most, D: 1}, most}, {api.Rat{N: -most, D: 1}, -most}, {api.Rat{N: most, D: most - 1}, 1}, {api.Rat{N: -most, D: most - 1}, -2},
		{api.Rat{N: most, D: 3}, 333333333}, {api.Rat{N: -most, D: 3}, -333333334},
	} {
		if n, e := rational.Floor(c.a); n != c.want || e != api.OK {
			t.Errorf("Floor(%v): %d, %v; want %d", c.a, n, e, c.want)
		}
	}
	for _, bad := range notNumbers {
		if n, e := rational.Floor(bad); n != 0 || e != api.ErrArg {
			t.Errorf("Floor(%v): %d, %v", bad, n, e)
		}
	}
}

// P1.1, A6.
func TestText(t *testing.T) {
	for _, c := range []struct {
		a    api.Rat
		want string
	}{
		{api.Rat{N: -3, D: 4}, "-3/4"}, {api.Rat{N: 5, D: 1}, "5"}, {api.Rat{N: -5, D: 1}, "-5"}, {zero, "0"}, {api.Rat{N: 10, D: 7}, "10/7"},
		{api.Rat{N: most, D: 1}, "1000000000"}, {api.Rat{N: -1, D: most}, "-1/1000000000"}, {api.Rat{N: -most, D: most - 1}, "-1000000000/999999999"},
	} {
		if s, e := rational.Text(c.a); s != c.want || e != api.OK {
			t.Errorf("Text(%v): %q, %v; want %q", c.a, s, e, c.want)
		}
	}
	for _, bad := range notNumbers {
		if s, e := rational.Text(bad); s != "" || e != api.ErrArg {
			t.Errorf("Text(%v): %q, %v", bad, s, e)
		}
	}
}

// textForm is the form of a text, but for lowest terms and the limits.
var textForm = regexp.MustCompile(`^(0|-?[1-9][0-9]*)(/([1-9][0-9]*))?$`)

// parsed is what the document requires of Parse.
func parsed(s string) (api.Rat, api.Errno) {
	parts := textForm.FindStringSubmatch(s)
	if parts == nil {
		return api.Rat{}, api.ErrForm
	}
	n, failN := strconv.Atoi(parts[1])
	d, failD := 1, error(nil)
	if parts[2] != "" {
		d, failD = strconv.Atoi(parts[3])
	}
	if failN != nil || failD != nil || n < -most || n > most || d > most || !coprime(n, d) || parts[2] != "" && d == 1 {
		return api.Rat{}, api.ErrForm
	}
	return api.Rat{N: n, D: d}, api.OK
}

func checkParse(t *testing.T, s string) {
	t.Helper()
	want, wrong := parsed(s)
	if r, e := rational.Parse(s); r != want || e != wrong {
		t.Errorf("Parse(%q): %v, %v; want %v, %v", s, r, e, want, wrong)
	}
}

// P1.1, A7: all short strings.
func TestParseShort(t *testing.T) {
	texts := []string{""}
	for range 5 {
		for _, s := range texts {
			checkParse(t, s)
		}
		var longer []string
		for _, s := range texts {
			for _, c := range "-+/01267 " {
				longer = append(longer, s+string(c))
			}
		}
		texts = longer
	}
	for _, s := range texts {
		checkParse(t, s)
	}
}

// P1.1, A7: what other readers of numbers would take, and the limits.
func TestParse(t *testing.T) {
	for _, s := range []string{
		"-3/4", "5", "0", "1000000000", "-1000000000", "1/1000000000", "-1000000000/999999999", "999999999/1000000000",
		"6/4", "-0", "1/1", "-1/1", "0/1", "0/7", "1/0", "0/0", "+1", "01", "-01", "1/02", "1/+2", "1/-2", "-1/-2", "--1", "1//2", "1/2/3", "/", "-", "-/2",
		"1000000001", "-1000000001", "1/1000000001", "01000000000", "2000000000/2", "1000000000/1000000000",
		"9223372036854775807", "9223372036854775808", "-9223372036854775808", "18446744073709551617", "1/18446744073709551618", "99999999999999999999999999",
		" 1", "1 ", "1 /2", "1/ 2", "1\n", "\t1", "1\x00", "1_000", "0x1", "0b1", "0o7", "1e3", "1.5", "1.0", "½", "1⁄2", "\u0661", "\uff11", "\u22121", "a", "1a", "Inf", "NaN",
		strings.Repeat("0", 1000) + "1", strings.Repeat("9", 100000), "1/" + strings.Repeat("9", 100000), strings.Repeat("-", 1000), strings.Repeat("/", 1000),
	} {
		checkParse(t, s)
	}
	for _, s := range []string{"6/4", "-0", "1/1"} {
		if r, e := rational.Parse(s); r != (api.Rat{}) || e != api.ErrForm {
			t.Errorf("Parse(%q): %v, %v", s, r, e)
		}
	}
	if r, e := rational.Parse("-1000000000/999999999"); r != (api.Rat{N: -most, D: most - 1}) || e != api.OK {
		t.Error(r, e)
	}
}
