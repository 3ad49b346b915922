package sign_test

import (
	"fmt"
	"hash/fnv"
	"math"
	"math/big"
	"math/rand/v2"
	"slices"
	"testing"

	"barcarole/api"
	"barcarole/sign"
)

// The group, written out: a test that took these from the program would follow its mistakes.
const (
	modulus   = 2147483579
	order     = 1073741789
	generator = 4
	most      = 32 // integers in a message
)

// found is a signature by one secret whose E or S lies at an end; somebody looked for the message.
type found struct {
	secret, once int
	message      []int
	want         api.Sig
}

var atEnds = []found{
	{5, 7, []int{1867229712}, api.Sig{E: 0, S: 7}},
	{5, 7, []int{262602941}, api.Sig{E: order - 1, S: 2}},
	{5, 7, []int{886622290}, api.Sig{E: 644245072, S: 0}},
	{5, 7, []int{547092572}, api.Sig{E: 429496714, S: order - 1}},
	{5, 7, []int{2761738277}, api.Sig{E: 1, S: 12}},
	{order - 1, order - 1, []int{896757815}, api.Sig{E: 0, S: order - 1}},
	{order - 1, order - 1, []int{1579772306}, api.Sig{E: order - 1, S: 0}},
}

// rightForOne are signatures for the element 1, which is no public key: any S is right with its challenge.
var rightForOne = []struct {
	s       api.Sig
	message []int
}{
	{api.Sig{E: 0, S: 0}, []int{361721010}}, {api.Sig{E: order - 1, S: 0}, []int{2201359715}},
	{api.Sig{E: 0, S: order - 1}, []int{619961249}}, {api.Sig{E: order - 1, S: order - 1}, []int{796446858}},
}

// beyond are integers far from all ranges, and those that a narrower type or a product would wrap into one: the power
// of each of the last two to Q, computed with an int, is 1.
var beyond = []int{1 << 31, 1<<31 + 1, 1 << 32, 1<<32 + 1, 1<<32 + 4, 1<<32 + 5, 1<<63 - 1, 1<<62 + 1, 1 << 62, 3 << 61, -1 << 31, 5 - 1<<32, -1 << 32, -1 << 62, math.MaxInt - 1, math.MinInt, math.MinInt + 1, math.MinInt + 4, -9223372022587368894, -9223372018423827043}

// outside are integers that are neither exponents nor secrets.
func outside() []int {
	return append([]int{-1, -2, -5, order, order + 1, order + 5, 2 * order, 2*order + 1, 3*order + 7, modulus - 1, modulus, modulus + 1, -order, 1 - order, 5 - order, -modulus}, beyond...)
}

// secrets are small and great ones, those next to powers of 2, and others.
func secrets() []int {
	list := []int{1, 2, 3, 4, 5, 6, 7, 10, 1000, 65537, (order - 1) / 2, (order + 1) / 2, order - 1, order - 2, order - 3, order - 5}
	for bit := 3; bit < 30; bit++ {
		list = append(list, 1<<bit-1, 1<<bit, 1<<bit+1)
	}
	random := rand.New(rand.NewPCG(6, 1))
	for range 60 {
		list = append(list, 1+random.IntN(order-1))
	}
	return list
}

// messages have all numbers of integers, which have all sizes.
func messages() [][]int {
	full := slices.Repeat([]int{math.MinInt, math.MaxInt}, most/2)
	list := [][]int{
		nil, {}, {0}, {1}, {-1}, {1, 2}, {12}, {2, 1}, {0, 0}, {math.MinInt}, {math.MaxInt}, {math.MaxInt, math.MinInt},
		{math.MinInt + 1, math.MaxInt - 1, 0}, {order}, {modulus}, {-order, order - 1, modulus - 1}, {1 << 32, -1 << 32},
		make([]int, most), make([]int, most-1), full, full[1:],
	}
	random := rand.New(rand.NewPCG(6, 2))
	for count := 1; count <= most; count++ {
		var l []int
		for range count {
			l = append(l, int(random.Uint64())>>random.IntN(64))
		}
		list = append(list, l)
	}
	return list
}

// long are messages with too many integers.
func long() [][]int {
	return [][]int{make([]int, most+1), slices.Repeat([]int{math.MinInt, math.MaxInt}, most), make([]int, most+2), make([]int, 256), make([]int, 1<<16), make([]int, 1<<16+1)}
}

// residue is a power modulo P, by the library.
func residue(base, exponent int) int {
	return int(new(big.Int).Exp(big.NewInt(int64(base)), big.NewInt(int64(exponent)), big.NewInt(modulus)).Int64())
}

// times is a product modulo P.
func times(a, b int) int {
	p := new(big.Int).Mul(big.NewInt(int64(a)), big.NewInt(int64(b)))
	return int(p.Mod(p, big.NewInt(modulus)).Int64())
}

// mixed is a + b c modulo Q.
func mixed(a, b, c int) int {
	p := new(big.Int).Mul(big.NewInt(int64(b)), big.NewInt(int64(c)))
	p.Add(p, big.NewInt(int64(a)))
	return int(p.Mod(p, big.NewInt(order)).Int64())
}

// isElement reports whether an integer is a square from 1 to P - 1: these are the elements, as P = 2 Q + 1.
func isElement(n int) bool {
	return 1 <= n && n < modulus && big.Jacobi(big.NewInt(int64(n)), big.NewInt(modulus)) == 1
}

// challengeOf is the challenge of an element, an element and a message, by the library's digest.
func challengeOf(begun, public int, message []int) int {
	h := fnv.New64a()
	for _, n := range append([]int{begun, public}, message...) {
		fmt.Fprintf(h, "%d ", n)
	}
	return int(h.Sum64() % order)
}

// signature is what the document requires of Sign.
func signature(secret, once int, message []int) api.Sig {
	e := challengeOf(residue(generator, once), residue(generator, secret), message)
	return api.Sig{E: e, S: mixed(once, e, secret)}
}

// wanted is the challenge that the document asks of a signature.
func wanted(public int, s api.Sig, message []int) int {
	begun := times(residue(generator, s.S), residue(public, (order-s.E)%order))
	return challengeOf(begun, public, message)
}

func publicOf(t *testing.T, secret int) int {
	t.Helper()
	public, e := sign.Public(secret)
	if e != api.OK {
		t.Fatalf("Public(%d): %v", secret, e)
	}
	return public
}

func signed(t *testing.T, secret, once int, message []int) api.Sig {
	t.Helper()
	s, e := sign.Sign(secret, once, message)
	if e != api.OK {
		t.Fatalf("Sign(%d, %d, %v): %v", secret, once, message, e)
	}
	return s
}

func isRight(t *testing.T, public int, s api.Sig, message []int) bool {
	t.Helper()
	right, e := sign.Verify(public, s, message)
	if e != api.OK {
		t.Fatalf("Verify(%d, %v, %v): %v", public, s, message, e)
	}
	return right
}

// pairs are numbers from 1 to count that a function gives the same value: one pair for each value that comes again.
func pairs(count int, value func(int) int) [][2]int {
	first := map[int]int{}
	var list [][2]int
	for n := 1; n <= count; n++ {
		v := value(n)
		if m, ok := first[v]; ok {
			list = append(list, [2]int{m, n})
		} else {
			first[v] = n
		}
	}
	return list
}
