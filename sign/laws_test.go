package sign_test

import (
	"cmp"
	"math/big"
	"math/rand/v2"
	"slices"
	"testing"

	"barcarole/api"
	"barcarole/digest"
)

// P6.2: each secret, with many numbers that are used once and all messages.
func TestSignedIsRight(t *testing.T) {
	list := secrets()
	for i, secret := range list {
		public := publicOf(t, secret)
		for j, message := range messages() {
			for _, once := range []int{1, order - 1, secret, order - secret, list[(i+j*13)%len(list)]} {
				if s := signed(t, secret, once, message); !isRight(t, public, s, message) {
					t.Errorf("secret %d, once %d, message %v: %v is not right", secret, once, message, s)
				}
			}
		}
	}
}

// checkRight finds whether a signature is said to be right exactly if its E is the challenge, and returns this.
func checkRight(t *testing.T, public int, s api.Sig, message []int) bool {
	t.Helper()
	before := slices.Clone(message)
	want := wanted(public, s, message) == s.E
	if got := isRight(t, public, s, message); got != want || !slices.Equal(message, before) {
		t.Errorf("Verify(%d, %v, %v): %v; want %v", public, s, before, got, want)
	}
	return want
}

// changed are signatures that differ from one in E or S.
func changed(s api.Sig) []api.Sig {
	list := []api.Sig{
		{E: s.S, S: s.E}, {E: s.E, S: 0}, {E: 0, S: s.S}, {}, {E: (order - s.E) % order, S: s.S}, {E: s.E, S: (order - s.S) % order},
		{E: (s.E + 1) % order, S: s.S}, {E: s.E, S: (s.S + 1) % order}, {E: (s.E + 1) % order, S: (s.S + 1) % order},
		{E: (s.E + order - 1) % order, S: s.S}, {E: s.E, S: (s.S + order - 1) % order}, {E: s.E, S: s.E}, {E: s.S, S: s.S},
	}
	for bit := range 30 {
		list = append(list, api.Sig{E: s.E ^ 1<<bit, S: s.S}, api.Sig{E: s.E, S: s.S ^ 1<<bit})
	}
	return slices.DeleteFunc(list, func(c api.Sig) bool { return c == s || c.E >= order || c.S >= order })
}

// P6.3: a signature that was changed.
func TestChangedSignatures(t *testing.T) {
	list := secrets()
	for i, message := range messages() {
		secret, once := list[i%len(list)], list[(i*17+3)%len(list)]
		public := publicOf(t, secret)
		s := signed(t, secret, once, message)
		if !checkRight(t, public, s, message) {
			t.Errorf("secret %d, once %d, message %v: %v is not right", secret, once, message, s)
		}
		for _, other := range changed(s) {
			if checkRight(t, public, other, message) {
				t.Errorf("secret %d, once %d, message %v: %v is right, too", secret, once, message, other)
			}
		}
	}
}

// otherMessages are messages that differ from one in an integer, in their order, or in how many they are.
func otherMessages(message []int) [][]int {
	var list [][]int
	for i := range message {
		for _, by := range []int{1, -1, 1 << 32, -1 << 63, order} {
			other := slices.Clone(message)
			other[i] += by
			list = append(list, other)
		}
		list = append(list, slices.Delete(slices.Clone(message), i, i+1))
	}
	backwards := slices.Clone(message)
	slices.Reverse(backwards)
	list = append(list, backwards)
	for _, n := range []int{0, 1, len(message)} {
		if len(message) < most {
			list = append(list, append(slices.Clone(message), n), append([]int{n}, message...))
		}
	}
	return slices.DeleteFunc(list, func(m []int) bool { return slices.Equal(m, message) })
}

// P6.3: a signature for another message.
func TestOtherMessages(t *testing.T) {
	list := secrets()
	for i, message := range messages() {
		secret, once := list[(i*5+1)%len(list)], list[(i*19+2)%len(list)]
		public := publicOf(t, secret)
		s := signed(t, secret, once, message)
		for _, other := range append(otherMessages(message), []int{1, 2, 3}) {
			if checkRight(t, public, s, other) {
				t.Errorf("%v: right for %v and %v", s, message, other)
			}
		}
	}
}

// P6.3: a signature for another key: 1 and G, the inverse one, one that is a factor away, and those of other secrets.
func TestOtherKeys(t *testing.T) {
	list := secrets()
	for i, secret := range list {
		public := publicOf(t, secret)
		message := messages()[i%len(messages())]
		s := signed(t, secret, list[(i*23+4)%len(list)], message)
		keys := []int{1, generator, publicOf(t, order-secret), times(public, generator), times(public, public), residue(generator, s.E), residue(generator, s.S)}
		for _, other := range list {
			keys = append(keys, publicOf(t, other))
		}
		for _, key := range keys {
			if checkRight(t, key, s, message) != (key == public) {
				t.Errorf("%v of %v: for %d as for %d", s, message, public, key)
			}
		}
	}
}

// P6.3: signatures that nobody computed from a secret; for 1 they are right with any S.
func TestAnySignatures(t *testing.T) {
	random := rand.New(rand.NewPCG(6, 4))
	came := map[bool]int{}
	for range 3000 {
		public := residue(generator, random.IntN(order))
		s := api.Sig{E: random.IntN(order), S: random.IntN(order)}
		message := messages()[random.IntN(len(messages()))]
		came[checkRight(t, public, s, message)]++
		s.E = challengeOf(residue(generator, s.S), 1, message)
		came[checkRight(t, 1, s, message)]++
		s.E = int(digest.Ints(append([]int{residue(generator, s.S), 1}, message...)...) % order)
		came[checkRight(t, 1, s, message)]++
		came[checkRight(t, generator, s, message)]++
	}
	if came[true] < 6000 || came[false] < 6000 {
		t.Errorf("signatures: %v", came)
	}
}

// P6.3 and P6.4: messages with the same challenge have the same signature, which is right for both.
func TestSameChallenge(t *testing.T) {
	public := publicOf(t, 5)
	list := pairs(200000, func(n int) int { return signed(t, 5, 7, []int{n, 3}).E })
	if len(list) < 5 {
		t.Errorf("only %d pairs", len(list))
	}
	for _, pair := range list {
		a, b := []int{pair[0], 3}, []int{pair[1], 3}
		s := signed(t, 5, 7, a)
		if s != signed(t, 5, 7, b) || !checkRight(t, public, s, a) || !checkRight(t, public, s, b) || checkRight(t, public, s, []int{pair[0], pair[1]}) {
			t.Errorf("messages %v and %v: signature %v", a, b, s)
		}
	}
}

// quotient is (a - b) / (c - d) modulo Q.
func quotient(a, b, c, d int) int {
	bottom := new(big.Int).ModInverse(big.NewInt(int64((c-d+order)%order)), big.NewInt(order))
	return mixed(0, (a-b+order)%order, int(bottom.Int64()))
}

// P6.4: two messages with the same number give the secret away.
func TestOnce(t *testing.T) {
	list, told := secrets(), 0
	for i, secret := range list {
		for _, once := range []int{1, order - 1, secret, list[(i*29+5)%len(list)]} {
			first := signed(t, secret, once, []int{secret, 8})
			for _, message := range messages() {
				s := signed(t, secret, once, message)
				if s.E == first.E {
					continue
				}
				told++
				if got := quotient(first.S, s.S, first.E, s.E); got != secret {
					t.Errorf("secret %d, once %d: %v and %v of %v lead to %d", secret, once, first, s, message, got)
				}
			}
		}
	}
	if told < 10000 {
		t.Errorf("only %d pairs", told)
	}
}

// P6.5: many secrets, from both ends and from between.
func TestDifferentKeys(t *testing.T) {
	list := secrets()
	for n := 1; n <= 100000; n++ {
		list = append(list, n, order-n, order/2-50000+n)
	}
	random := rand.New(rand.NewPCG(6, 5))
	for range 100000 {
		list = append(list, 1+random.IntN(order-1))
	}
	owner := map[int]int{}
	for _, secret := range list {
		public := publicOf(t, secret)
		if other, ok := owner[public]; ok && other != secret {
			t.Fatalf("%d and %d have the key %d", other, secret, public)
		}
		owner[public] = secret
	}
	if len(owner) < 350000 {
		t.Errorf("only %d keys", len(owner))
	}
}

// P6.6: sums below Q, above Q, and Q itself.
func TestSums(t *testing.T) {
	list, came := secrets(), map[int]int{}
	for _, a := range list {
		for _, b := range append([]int{order - a, (2*order - a - 1) % order, order - 1, 1}, list...) {
			if b == 0 {
				continue
			}
			want := 1
			if sum := (a + b) % order; sum != 0 {
				want = publicOf(t, sum)
			}
			if got := times(publicOf(t, a), publicOf(t, b)); got != want {
				t.Errorf("keys of %d and %d: product %d; want %d", a, b, got, want)
			}
			came[cmp.Compare(a+b, order)]++
		}
	}
	if came[-1] < 1000 || came[1] < 1000 || came[0] < 100 {
		t.Errorf("sums below Q, above Q, and Q: %v", came)
	}
}

// P6.7: each two numbers for one message.
func TestNumbers(t *testing.T) {
	for i, message := range [][]int{nil, {1, 2}, make([]int, most), {-1 << 63}} {
		for _, secret := range []int{1, 5, order - 1, secrets()[i*9+20]} {
			number := map[api.Sig]int{}
			for _, once := range secrets() {
				s := signed(t, secret, once, message)
				if other, ok := number[s]; ok && other != once {
					t.Errorf("secret %d, message %v: %v with %d and %d", secret, message, s, other, once)
				}
				number[s] = once
				if again := signed(t, secret, once, slices.Clone(message)); again != s {
					t.Errorf("secret %d, once %d, message %v: %v and %v", secret, once, message, s, again)
				}
			}
		}
	}
}

// P6.7: numbers that lead to the same E, or to the same S; both signatures are right.
func TestNumbersAlike(t *testing.T) {
	message := []int{6, 7}
	public := publicOf(t, 11)
	sameE := pairs(200000, func(n int) int { return signed(t, 11, n, message).E })
	sameS := pairs(200000, func(n int) int { return signed(t, 11, n, message).S })
	if len(sameE) < 5 || len(sameS) < 5 {
		t.Errorf("only %d and %d pairs", len(sameE), len(sameS))
	}
	for i, pair := range append(sameE, sameS...) {
		a, b := signed(t, 11, pair[0], message), signed(t, 11, pair[1], message)
		if a == b || (a.E == b.E) != (i < len(sameE)) || (a.S == b.S) != (i >= len(sameE)) {
			t.Errorf("once %d and %d: %v and %v", pair[0], pair[1], a, b)
		}
		if !checkRight(t, public, a, message) || !checkRight(t, public, b, message) {
			t.Errorf("once %d and %d: %v and %v are not right", pair[0], pair[1], a, b)
		}
	}
}
