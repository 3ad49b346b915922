package sign_test

import (
	"math"
	"math/big"
	"math/rand/v2"
	"slices"
	"testing"

	"barcarole/api"
	"barcarole/sign"
)

// The group of the document: both numbers are prime, and G is an element other than 1.
func TestGroup(t *testing.T) {
	if api.P != modulus || api.Q != order || api.G != generator || modulus != 2*order+1 {
		t.Errorf("P %d, Q %d, G %d", api.P, api.Q, api.G)
	}
	if !big.NewInt(modulus).ProbablyPrime(20) || !big.NewInt(order).ProbablyPrime(20) || !isElement(generator) {
		t.Error("no such group")
	}
}

// P6.1, F1: the examples, the first secrets and the last ones.
func TestPublicCases(t *testing.T) {
	for _, c := range []struct{ secret, want int }{
		{1, 4}, {5, 1024}, {2, 16}, {3, 64}, {7, 16384}, {15, 1 << 30}, {16, 1<<32 - 2*modulus},
		{order - 1, (modulus + 1) / 4},     // times 4 it is 1
		{order - 2, (13*modulus + 1) / 16}, // times 16 it is 1
	} {
		if got, e := sign.Public(c.secret); got != c.want || e != api.OK {
			t.Errorf("Public(%d): %d, %v; want %d", c.secret, got, e, c.want)
		}
	}
}

// P6.1, F1.
func TestPublic(t *testing.T) {
	for _, secret := range secrets() {
		if got, want := publicOf(t, secret), residue(generator, secret); got != want || !isElement(got) {
			t.Errorf("Public(%d): %d; want %d", secret, got, want)
		}
	}
}

// P6.1, F1: 0, Q and others that are no secrets.
func TestPublicErrors(t *testing.T) {
	for _, n := range append([]int{0, order}, outside()...) {
		if got, e := sign.Public(n); got != 0 || e != api.ErrArg {
			t.Errorf("Public(%d): %d, %v", n, got, e)
		}
	}
}

// P6.1, F2: signatures that were computed beforehand, among them those with 0 and Q - 1 as E or S.
func TestSignCases(t *testing.T) {
	var numbers []int
	for n := -16; n < 16; n++ {
		numbers = append(numbers, n)
	}
	for _, c := range append([]found{
		{5, 7, []int{1, 2}, api.Sig{E: 545527313, S: 580152994}},
		{1, 1, nil, api.Sig{E: 1053431153, S: 1053431154}},
		{order - 1, order - 1, []int{}, api.Sig{E: 135243925, S: 938497863}},
		{1, order - 1, []int{0}, api.Sig{E: 974470865, S: 974470864}},
		{order - 1, 1, []int{math.MaxInt, math.MinInt}, api.Sig{E: 734560080, S: 339181710}},
		{123456789, 987654321, numbers, api.Sig{E: 135041368, S: 653656473}},
	}, atEnds...) {
		if got, e := sign.Sign(c.secret, c.once, c.message); got != c.want || e != api.OK {
			t.Errorf("Sign(%d, %d, %v): %v, %v; want %v", c.secret, c.once, c.message, got, e, c.want)
		}
	}
}

// P6.1, F2.
func TestSign(t *testing.T) {
	list := secrets()
	for i, message := range messages() {
		before := slices.Clone(message)
		for j, secret := range list {
			once := list[(i*7+j*11)%len(list)]
			if got, want := signed(t, secret, once, message), signature(secret, once, before); got != want {
				t.Errorf("Sign(%d, %d, %v): %v; want %v", secret, once, message, got, want)
			}
		}
		if !slices.Equal(message, before) {
			t.Errorf("Sign changed %v", before)
		}
	}
}

// P6.1, F2: what is no secret, as the secret and as the number that is used once.
func TestSignErrors(t *testing.T) {
	for _, n := range append([]int{0, order}, outside()...) {
		for _, message := range append(long(), messages()...) { // a message that is too long comes behind
			for _, c := range [][2]int{{n, 7}, {5, n}, {n, n}, {order - 1, n}, {n, 1}} {
				if s, e := sign.Sign(c[0], c[1], message); s != (api.Sig{}) || e != api.ErrArg {
					t.Fatalf("Sign(%d, %d, %d integers): %v, %v", c[0], c[1], len(message), s, e)
				}
			}
		}
	}
}

// P6.1, F2: messages with 33 integers and more, and with 32.
func TestSignLong(t *testing.T) {
	for _, message := range long() {
		for _, c := range [][2]int{{5, 7}, {1, 1}, {order - 1, order - 1}} {
			if s, e := sign.Sign(c[0], c[1], message); s != (api.Sig{}) || e != api.ErrLimit {
				t.Errorf("Sign(%d, %d, %d integers): %v, %v", c[0], c[1], len(message), s, e)
			}
			if s, e := sign.Sign(c[0], c[1], message[:most]); s != signature(c[0], c[1], message[:most]) || e != api.OK {
				t.Errorf("Sign(%d, %d, %d integers): %v, %v", c[0], c[1], most, s, e)
			}
		}
	}
}

// P6.1, F2 and F3: what lies behind a message in its memory belongs to the caller.
func TestMemory(t *testing.T) {
	memory := []int{8, 9, 1, 2, 10, 11, 12, 13}
	before := slices.Clone(memory)
	message := memory[2:4]
	s := signed(t, 5, 7, message)
	if s != (api.Sig{E: 545527313, S: 580152994}) || !isRight(t, 1024, s, message) || !slices.Equal(memory, before) {
		t.Errorf("signature %v, memory %v", s, memory)
	}
}

// P6.1, F3: the examples, and signatures with 0 and Q - 1 as E or S, for public keys and for 1.
func TestVerifyCases(t *testing.T) {
	s := signed(t, 5, 7, []int{1, 2})
	for _, c := range []struct {
		public  int
		s       api.Sig
		message []int
		want    bool
		e       api.Errno
	}{
		{1024, s, []int{1, 2}, true, api.OK}, {2, s, []int{1, 2}, false, api.ErrArg},
		{1024, s, []int{2, 1}, false, api.OK}, {1024, s, []int{12}, false, api.OK}, {1024, s, nil, false, api.OK}, {1024, s, []int{1, 2, 0}, false, api.OK},
		{generator, s, []int{1, 2}, false, api.OK}, {1, s, []int{1, 2}, false, api.OK},
		{1024, api.Sig{E: s.S, S: s.E}, []int{1, 2}, false, api.OK}, {1024, api.Sig{}, []int{1, 2}, false, api.OK},
	} {
		if got, e := sign.Verify(c.public, c.s, c.message); got != c.want || e != c.e {
			t.Errorf("Verify(%d, %v, %v): %v, %v; want %v, %v", c.public, c.s, c.message, got, e, c.want, c.e)
		}
	}
	for _, c := range atEnds {
		if !isRight(t, residue(generator, c.secret), c.want, c.message) {
			t.Errorf("%v: not right for %v", c.want, c.message)
		}
	}
	for _, c := range rightForOne {
		if !isRight(t, 1, c.s, c.message) || isRight(t, generator, c.s, c.message) || isRight(t, 1, c.s, append(c.message, 0)) {
			t.Errorf("%v: for 1 and %v", c.s, c.message)
		}
	}
}

// P6.1, F3: 0, P, negative integers, and those from 1 to P - 1 that are no elements; and elements next to them.
func TestElements(t *testing.T) {
	list := append([]int{0, modulus, modulus + 1, modulus + generator, 2*modulus + 1, 5*modulus + generator, generator - modulus, 1 - modulus, -modulus, -1, -4}, beyond...)
	random := rand.New(rand.NewPCG(6, 3))
	for n := range 1500 {
		list = append(list, n, modulus-n, modulus+n, order-700+n, 1<<30-700+n, -n, random.IntN(modulus))
	}
	came := map[bool]int{}
	for _, public := range list {
		want := api.ErrArg
		if isElement(public) {
			want = api.OK
		}
		for _, message := range [][]int{nil, {1, 2}, make([]int, most)} {
			right, e := sign.Verify(public, api.Sig{E: 3, S: 9}, message)
			if right || e != want {
				t.Errorf("Verify with %d as the key: %v, %v", public, right, e)
			}
		}
		came[want == api.OK]++
	}
	if came[true] < 3000 || came[false] < 3000 {
		t.Errorf("elements: %v", came)
	}
}

// P6.1, F3: E and S that are no exponents; those that would be right as well, as they are the same modulo Q.
func TestVerifyErrors(t *testing.T) {
	message := []int{1, 2}
	s := signed(t, 5, 7, message)
	for _, n := range outside() {
		for _, wrong := range []api.Sig{{E: n, S: s.S}, {E: s.E, S: n}, {E: n, S: n}, {E: n, S: 0}, {E: 0, S: n}} {
			for _, m := range append(long(), message, nil) { // a message that is too long comes behind
				if right, e := sign.Verify(1024, wrong, m); right || e != api.ErrArg {
					t.Errorf("Verify(1024, %v, %d integers): %v, %v", wrong, len(m), right, e)
				}
			}
		}
	}
	for _, c := range atEnds {
		public := residue(generator, c.secret)
		for _, by := range []int{order, -order, 2 * order, order << 20, 1 << 32} {
			for _, wrong := range []api.Sig{{E: c.want.E + by, S: c.want.S}, {E: c.want.E, S: c.want.S + by}, {E: c.want.E + by, S: c.want.S + by}} {
				if right, e := sign.Verify(public, wrong, c.message); right || e != api.ErrArg {
					t.Errorf("Verify(%d, %v, %v): %v, %v", public, wrong, c.message, right, e)
				}
			}
		}
		for _, key := range []int{public + modulus, public - modulus, -public, modulus - public, public + 1<<32, 0} {
			for _, m := range append(long(), c.message) {
				if right, e := sign.Verify(key, c.want, m); right || e != api.ErrArg {
					t.Errorf("Verify(%d, %v, %d integers): %v, %v", key, c.want, len(m), right, e)
				}
			}
		}
	}
}

// P6.1, F3: messages with 33 integers and more, and with 32.
func TestVerifyLong(t *testing.T) {
	for _, message := range long() {
		s := signature(5, 7, message) // it would be right
		for _, public := range []int{1024, generator, 1} {
			if right, e := sign.Verify(public, s, message); right || e != api.ErrLimit {
				t.Errorf("Verify(%d, %v, %d integers): %v, %v", public, s, len(message), right, e)
			}
		}
		if s := signature(5, 7, message[:most]); !isRight(t, 1024, s, message[:most]) {
			t.Errorf("%v: not right for %d integers", s, most)
		}
	}
}

// P6.1, F3: the ends of the exponents are taken, right or not.
func TestExponents(t *testing.T) {
	for _, public := range []int{1, generator, 1024, residue(generator, order-1)} {
		for _, e := range []int{0, 1, order - 2, order - 1} {
			for _, s := range []int{0, 1, order - 2, order - 1} {
				for _, message := range messages() {
					sig := api.Sig{E: e, S: s}
					if got, want := isRight(t, public, sig, message), wanted(public, sig, message) == e; got != want {
						t.Errorf("Verify(%d, %v, %v): %v", public, sig, message, got)
					}
				}
			}
		}
	}
}
