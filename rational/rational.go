// Package rational is layer 1: exact rational numbers of bounded size; see shared/doc/01-rational.md.
package rational

import (
	"cmp"
	"strconv"
	"strings"

	"barcarole/api"
)

// number has the operations of arithmetic. Numerators and denominators are at
// most 10^9, so products are at most 10^18 and sums of two of them fit an int.
type number api.Rat

func (a number) plus(b number) (n, d int) { return a.N*b.D + b.N*a.D, a.D * b.D }

func (a number) minus(b number) (n, d int) { return a.N*b.D - b.N*a.D, a.D * b.D }

func (a number) times(b number) (n, d int) { return a.N * b.N, a.D * b.D }

func (a number) over(b number) (n, d int) { return a.N * b.D, a.D * b.N }

// Valid reports whether a number is valid.
func Valid(r api.Rat) bool {
	if r.D < 1 || r.D > api.MaxRat || absolute(r.N) > api.MaxRat {
		return false
	}
	return commonDivisor(absolute(r.N), absolute(r.D)) == 1
}

// Make returns the reduced quotient of two integers.
func Make(n, d int) (api.Rat, api.Errno) {
	return attempt(func() api.Rat { return reduce(n, d) })
}

// Add returns a sum.
func Add(a, b api.Rat) (api.Rat, api.Errno) { return combine(number.plus, a, b) }

// Sub returns a difference.
func Sub(a, b api.Rat) (api.Rat, api.Errno) { return combine(number.minus, a, b) }

// Mul returns a product.
func Mul(a, b api.Rat) (api.Rat, api.Errno) { return combine(number.times, a, b) }

// Div returns a quotient.
func Div(a, b api.Rat) (api.Rat, api.Errno) { return combine(number.over, a, b) }

// Cmp compares two numbers.
func Cmp(a, b api.Rat) (int, api.Errno) {
	return attempt(func() int {
		requireValid(a, b)
		return cmp.Compare(a.N*b.D, b.N*a.D)
	})
}

// Floor returns the greatest integer that is not above a number.
func Floor(a api.Rat) (int, api.Errno) {
	return attempt(func() int {
		requireValid(a)
		// The division of ints rounds towards 0, which is upwards below 0.
		if a.N%a.D < 0 {
			return a.N/a.D - 1
		}
		return a.N / a.D
	})
}

// Text returns a number as a string.
func Text(a api.Rat) (string, api.Errno) {
	return attempt(func() string {
		requireValid(a)
		return write(a)
	})
}

// Parse returns the number of a string.
func Parse(s string) (api.Rat, api.Errno) {
	return attempt(func() api.Rat { return read(s) })
}

// attempt returns the result of work, or the error that work raises as a panic.
func attempt[T any](work func() T) (result T, e api.Errno) {
	defer func() {
		if raised, ok := recover().(api.Errno); ok {
			e = raised
		}
	}()
	return work(), api.OK
}

func combine(operation func(a, b number) (n, d int), a, b api.Rat) (api.Rat, api.Errno) {
	return attempt(func() api.Rat {
		requireValid(a, b)
		return reduce(operation(number(a), number(b)))
	})
}

func requireValid(numbers ...api.Rat) {
	for _, r := range numbers {
		if !Valid(r) {
			panic(api.ErrArg)
		}
	}
}

func reduce(n, d int) api.Rat {
	if d == 0 {
		panic(api.ErrZero)
	}
	top, bottom := absolute(n), absolute(d)
	common := commonDivisor(top, bottom)
	top, bottom = top/common, bottom/common
	if top > api.MaxRat || bottom > api.MaxRat {
		panic(api.ErrRange)
	}
	if (n < 0) != (d < 0) {
		return api.Rat{N: -int(top), D: int(bottom)}
	}
	return api.Rat{N: int(top), D: int(bottom)}
}

// absolute is unsigned because the absolute value of the least int is not an int.
func absolute[T ~int | ~int64](x T) uint64 {
	if x < 0 {
		return -uint64(x)
	}
	return uint64(x)
}

func commonDivisor(a, b uint64) uint64 {
	for b != 0 {
		a, b = b, a%b
	}
	return a
}

func write(a api.Rat) string {
	if a.D == 1 {
		return strconv.Itoa(a.N)
	}
	return strconv.Itoa(a.N) + "/" + strconv.Itoa(a.D)
}

// read accepts what write gives back unchanged: that rules out signs, zeros
// and denominators that Atoi takes but that no text of a number has.
func read(s string) api.Rat {
	top, bottom, divided := strings.Cut(s, "/")
	r := api.Rat{N: readInt(top), D: 1}
	if divided {
		r.D = readInt(bottom)
	}
	if !Valid(r) || write(r) != s {
		panic(api.ErrForm)
	}
	return r
}

func readInt(s string) int {
	n, err := strconv.Atoi(s)
	if err != nil {
		panic(api.ErrForm)
	}
	return n
}
