package rational_test

import (
	"math"
	"math/big"
	"testing"

	"barcarole/api"
	"barcarole/rational"
)

// makeParts are integers at which a quotient is small, near a limit, or near the ends of int.
func makeParts() []int {
	var list []int
	for _, n := range []int{1, 2, 3, 4, 5, 6, 7, 12, 60, 31622, 31623, most/2 - 1, most / 2, most - 1, most, most + 1, 2 * most, 2*most + 2, 6 * most, most * most, 1<<53 + 1, 1 << 62, 3 << 61, math.MaxInt - 1, math.MaxInt} {
		list = append(list, n, -n)
	}
	return append(list, 0, math.MinInt, math.MinInt+1)
}

// P1.2: the value, in lowest terms, with a positive denominator.
func TestMakeHasTheValue(t *testing.T) {
	for _, n := range makeParts() {
		for _, d := range makeParts() {
			want, wrong := api.Rat{}, api.ErrZero
			if d != 0 {
				want, wrong = number(new(big.Rat).SetFrac(big.NewInt(int64(n)), big.NewInt(int64(d))))
			}
			if r, e := rational.Make(n, d); r != want || e != wrong {
				t.Errorf("Make(%d, %d): %v, %v; want %v, %v", n, d, r, e, want, wrong)
			}
		}
	}
}

func isInt(a, b int) bool {
	return new(big.Int).Mul(big.NewInt(int64(a)), big.NewInt(int64(b))).IsInt64()
}

// P1.2: a common factor makes no difference, be the result a number or an error.
func TestMakeOfMultiples(t *testing.T) {
	factors := append(makeParts(), -1, -8, 9, 1<<31, -1<<31, 1<<60, -1<<61)
	for _, n := range makeParts() {
		for _, d := range makeParts() {
			r, e := rational.Make(n, d)
			for _, k := range factors {
				if k == 0 || !isInt(n, k) || !isInt(d, k) {
					continue
				}
				if s, f := rational.Make(n*k, d*k); s != r || f != e {
					t.Errorf("Make(%d, %d) is %v, %v, but multiplied by %d it is %v, %v", n, d, r, e, k, s, f)
				}
			}
		}
	}
}

func checkCommutative(t *testing.T, name string, call operation) {
	t.Helper()
	for _, a := range numbers() {
		for _, b := range numbers() {
			x, e := call(a, b)
			if y, f := call(b, a); x != y || e != f {
				t.Errorf("%s of %v and %v: %v, %v; of %v and %v: %v, %v", name, a, b, x, e, b, a, y, f)
			}
		}
	}
}

func checkAssociative(t *testing.T, name string, call operation) {
	t.Helper()
	held := 0
	for _, a := range numbers() {
		for _, b := range numbers() {
			ab, e1 := call(a, b)
			for _, c := range numbers() {
				bc, e2 := call(b, c)
				if !all(e1, e2) {
					continue
				}
				x, e3 := call(ab, c)
				y, e4 := call(a, bc)
				if !all(e3, e4) {
					continue
				}
				held++
				if x != y {
					t.Errorf("%s of %v, %v, %v: %v and %v", name, a, b, c, x, y)
				}
			}
		}
	}
	if held < 10000 {
		t.Errorf("%s: only %d triples had all four results", name, held)
	}
}

// checkUndone finds whether undo takes back what call did, wherever that is a number.
func checkUndone(t *testing.T, name string, call, undo operation, skip api.Rat) {
	t.Helper()
	held := 0
	for _, a := range numbers() {
		for _, b := range numbers() {
			x, e := call(a, b)
			if b == skip || e != api.OK {
				continue
			}
			held++
			if y, f := undo(x, b); y != a || f != api.OK {
				t.Errorf("%s of %v and %v is %v, undone %v, %v", name, a, b, x, y, f)
			}
		}
	}
	if held < 1000 {
		t.Errorf("%s: only %d pairs had a result", name, held)
	}
}

// P1.3.
func TestSums(t *testing.T) {
	checkCommutative(t, "Add", rational.Add)
	checkAssociative(t, "Add", rational.Add)
	checkUndone(t, "Add", rational.Add, rational.Sub, api.Rat{})
	checkUndone(t, "Sub", rational.Sub, rational.Add, api.Rat{})
}

// P1.4.
func TestProducts(t *testing.T) {
	checkCommutative(t, "Mul", rational.Mul)
	checkAssociative(t, "Mul", rational.Mul)
	checkUndone(t, "Mul", rational.Mul, rational.Div, zero)
	checkUndone(t, "Div", rational.Div, rational.Mul, zero)
	for _, a := range numbers() {
		if r, e := rational.Div(a, zero); r != (api.Rat{}) || e != api.ErrZero {
			t.Errorf("Div(%v, 0): %v, %v", a, r, e)
		}
	}
}

// P1.4.
func TestMulDistributes(t *testing.T) {
	held := 0
	for _, a := range numbers() {
		for _, b := range numbers() {
			ab, e1 := rational.Mul(a, b)
			for _, c := range numbers() {
				ac, e2 := rational.Mul(a, c)
				bc, e3 := rational.Add(b, c)
				if !all(e1, e2, e3) {
					continue
				}
				x, e4 := rational.Mul(a, bc)
				y, e5 := rational.Add(ab, ac)
				if !all(e4, e5) {
					continue
				}
				held++
				if x != y {
					t.Errorf("%v times %v plus %v: %v and %v", a, b, c, x, y)
				}
			}
		}
	}
	if held < 10000 {
		t.Errorf("only %d triples had all results", held)
	}
}

// P1.5: exactly one of less, equal and greater, for equal numbers alone equal, and transitive.
func TestOrderIsTotal(t *testing.T) {
	list := numbers()
	for i, a := range list {
		for j, b := range list {
			order := compare(t, a, b)
			if order < -1 || order > 1 || order != -compare(t, b, a) || (order == 0) != (i == j) {
				t.Errorf("Cmp(%v, %v): %d", a, b, order)
			}
			for _, c := range list {
				if order <= 0 && compare(t, b, c) <= 0 && compare(t, a, c) > 0 {
					t.Errorf("%v, %v and %v are in a circle", a, b, c)
				}
			}
		}
	}
}

// P1.5: the sign of the difference, which adding the same number keeps.
func TestOrderAndSums(t *testing.T) {
	for _, a := range numbers() {
		for _, b := range numbers() {
			order := compare(t, a, b)
			if difference, e := rational.Sub(a, b); e == api.OK && compare(t, difference, zero) != order {
				t.Errorf("Cmp(%v, %v) is %d; the difference is %v", a, b, order, difference)
			}
			for _, c := range numbers() {
				x, e := rational.Add(a, c)
				y, f := rational.Add(b, c)
				if all(e, f) && compare(t, x, y) != order {
					t.Errorf("Cmp(%v, %v) is %d, but not with %v added", a, b, order, c)
				}
			}
		}
	}
}

// P1.6.
func TestNumberLessFloor(t *testing.T) {
	list := numbers()
	for d := 1; d <= 9; d++ {
		for n := -40; n <= 40; n++ {
			if coprime(n, d) {
				list = append(list, api.Rat{N: n, D: d})
			}
		}
	}
	one := api.Rat{N: 1, D: 1}
	for _, a := range list {
		floor, e := rational.Floor(a)
		rest, f := rational.Sub(a, api.Rat{N: floor, D: 1})
		if !all(e, f) {
			t.Errorf("Floor(%v): %d, %v, and the rest: %v", a, floor, e, f)
			continue
		}
		if compare(t, rest, zero) < 0 || compare(t, rest, one) >= 0 {
			t.Errorf("Floor(%v) is %d, and the rest %v", a, floor, rest)
		}
	}
}

// P1.7.
func TestTextAndParseAreInverse(t *testing.T) {
	texts := map[string]api.Rat{}
	for _, a := range numbers() {
		s, e := rational.Text(a)
		b, f := rational.Parse(s)
		if !all(e, f) || b != a {
			t.Errorf("%v has the text %q, %v, which is read as %v, %v", a, s, e, b, f)
		}
		if other, ok := texts[s]; ok {
			t.Errorf("%v and %v have the text %q", a, other, s)
		}
		texts[s] = a
	}
	for _, s := range []string{"0", "1", "-1", "7/3", "-22/7", "1000000000", "-1000000000", "999999999/1000000000", "-1/1000000000"} {
		if _, e := rational.Parse(s); e != api.OK {
			t.Errorf("%q is not read: %v", s, e)
		}
		checkTextOfParsed(t, s)
	}
	for _, s := range []string{"6/4", "-0", "1/1", "0/3", "+1", "01", "-07/3", "1/02", "-1/-2", "1/+2", " 1", "1 ", "1_000", "0x1", "2000000000/4"} {
		checkTextOfParsed(t, s)
	}
}

// checkTextOfParsed finds whether a string, if it is read at all, is the text of what was read.
func checkTextOfParsed(t *testing.T, s string) {
	t.Helper()
	a, e := rational.Parse(s)
	if e != api.OK {
		return
	}
	if again, f := rational.Text(a); again != s || f != api.OK {
		t.Errorf("%q is read as %v, which has the text %q, %v", s, a, again, f)
	}
}

func between(t *testing.T, low, x, high api.Rat) bool {
	t.Helper()
	return compare(t, low, x) < 0 && compare(t, x, high) < 0
}

// P1.8: the mediant lies strictly between.
func TestMediant(t *testing.T) {
	held := 0
	for _, a := range numbers() {
		for _, b := range numbers() {
			mediant, e := rational.Make(a.N+b.N, a.D+b.D)
			if e != api.OK || compare(t, a, b) >= 0 {
				continue
			}
			held++
			if !between(t, a, mediant, b) {
				t.Errorf("the mediant of %v and %v is %v", a, b, mediant)
			}
		}
	}
	if held < 500 {
		t.Errorf("only %d pairs had a mediant", held)
	}
}

// fractions returns the numbers from -1 to 2 with the denominators from 1 to last.
func fractions(last int) []api.Rat {
	var list []api.Rat
	for d := 1; d <= last; d++ {
		for n := -d; n <= 2*d; n++ {
			if r, e := rational.Make(n, d); e == api.OK && r.D == d {
				list = append(list, r)
			}
		}
	}
	return list
}

// P1.8: what lies between neighbours has no lesser denominator than the sum of theirs, which the mediant has.
func TestNeighbours(t *testing.T) {
	candidates := fractions(14)
	held := 0
	for _, a := range fractions(7) {
		for _, b := range fractions(7) {
			if compare(t, a, b) >= 0 || b.N*a.D-a.N*b.D != 1 {
				continue
			}
			least := 0
			for _, x := range candidates {
				if between(t, a, x, b) && (least == 0 || x.D < least) {
					least = x.D
				}
			}
			held++
			if least != a.D+b.D {
				t.Errorf("between %v and %v the least denominator is %d", a, b, least)
			}
		}
	}
	if held < 50 {
		t.Errorf("only %d pairs of neighbours", held)
	}
}
