package digest_test

import (
	"math"
	"math/rand/v2"
	"slices"
	"testing"

	"barcarole/api"
	"barcarole/digest"
)

// P5.1, E1: the document's examples, no bytes, and known digests, one of which is 0.
func TestSumCases(t *testing.T) {
	for _, c := range []struct {
		text string
		want uint64
	}{
		{"", 14695981039346656037}, {"", 0xcbf29ce484222325}, {"a", 0xaf63dc4c8601ec8c}, {"b", 0xaf63df4c8601f1a5}, {"foobar", 0x85944171f73967e8},
		{"\x00", 0xaf63bd4c8601b7df}, {"\xd5\x6b\xb9\x53\x42\x87\x08\x36", 0},
	} {
		if got := digest.Sum([]byte(c.text)); got != c.want {
			t.Errorf("Sum(%q): %x; want %x", c.text, got, c.want)
		}
	}
	if got := digest.Sum(nil); got != 14695981039346656037 {
		t.Errorf("Sum(nil): %x", got)
	}
}

// byteStrings are all strings of up to two bytes, and some long ones.
func byteStrings() [][]byte {
	list := [][]byte{nil, {}}
	for a := range 256 {
		list = append(list, []byte{byte(a)})
		for b := range 256 {
			list = append(list, []byte{byte(a), byte(b)})
		}
	}
	random := rand.New(rand.NewPCG(5, 1))
	for _, length := range []int{3, 4, 7, 8, 9, 15, 16, 17, 18, 63, 64, 65, 255, 256, 257, 1000, 65535, 65536, 65537, 1 << 20} {
		list = append(list, make([]byte, length), slices.Repeat([]byte{255}, length))
		mixed := make([]byte, length)
		for i := range mixed {
			mixed[i] = byte(random.Uint32())
		}
		list = append(list, mixed)
	}
	return list
}

// P5.1, E1.
func TestSum(t *testing.T) {
	for _, b := range byteStrings() {
		before := slices.Clone(b)
		if got, want := digest.Sum(b), fnv1a(b); got != want {
			t.Errorf("Sum of %d bytes, %q ..: %x; want %x", len(b), b[:min(len(b), 9)], got, want)
		}
		if !slices.Equal(b, before) {
			t.Errorf("Sum changed %q", before)
		}
	}
}

// P5.1, E2: the example, no numbers, and numbers at the ends, with their texts.
func TestIntsCases(t *testing.T) {
	for _, c := range []struct {
		l    []int
		text string
	}{
		{[]int{12, -3}, "12 -3 "},
		{nil, ""}, {[]int{}, ""},
		{[]int{0}, "0 "}, {[]int{0, 0}, "0 0 "},
		{[]int{7}, "7 "}, {[]int{-7}, "-7 "}, {[]int{10}, "10 "}, {[]int{-10}, "-10 "}, {[]int{100, 1000}, "100 1000 "}, {[]int{1, 2}, "1 2 "}, {[]int{2, 1}, "2 1 "}, {[]int{12}, "12 "},
		{[]int{math.MinInt}, "-9223372036854775808 "}, {[]int{math.MaxInt}, "9223372036854775807 "}, {[]int{math.MinInt, math.MaxInt, 0}, "-9223372036854775808 9223372036854775807 0 "},
		{[]int{math.MinInt + 1}, "-9223372036854775807 "}, {[]int{-1, 1, -1 << 31, 1 << 31, 1<<32 - 1, 1 << 32}, "-1 1 -2147483648 2147483648 4294967295 4294967296 "},
		{[]int{1000000000000000000, -1000000000000000000}, "1000000000000000000 -1000000000000000000 "},
	} {
		if got, want := digest.Ints(c.l...), fnv1a([]byte(c.text)); got != want {
			t.Errorf("Ints(%v): %x; want %x", c.l, got, want)
		}
	}
	if got := digest.Ints(); got != 14695981039346656037 {
		t.Errorf("Ints(): %x", got)
	}
}

// intLists are lists of numbers of all lengths up to 20 digits.
func intLists() [][]int {
	list := [][]int{nil, {0}, {math.MinInt}, {math.MaxInt}, make([]int, 1000)}
	random := rand.New(rand.NewPCG(5, 2))
	for count := range 40 {
		for range 5 {
			var l []int
			for range count {
				l = append(l, int(random.Uint64())>>random.IntN(64))
			}
			list = append(list, l)
		}
	}
	for n := -1200; n <= 1200; n++ {
		list = append(list, []int{n}, []int{n, -n, n + 5})
	}
	for power := 1; power < math.MaxInt/10; power *= 10 {
		list = append(list, []int{power}, []int{power - 1}, []int{-power}, []int{1 - power}, []int{power, -power, 3 * power})
	}
	return list
}

// P5.1, E2.
func TestInts(t *testing.T) {
	for _, l := range intLists() {
		before := slices.Clone(l)
		if got, want := digest.Ints(l...), fnv1a([]byte(textOf(l))); got != want {
			t.Errorf("Ints(%v): %x; want %x", l, got, want)
		}
		if !slices.Equal(l, before) {
			t.Errorf("Ints changed %v", before)
		}
	}
}

// P5.1, E3: trees of up to 7 leaves, put together by hand.
func TestRootCases(t *testing.T) {
	l := []uint64{0x0102030405060708, 0, math.MaxUint64, 0xfffefdfcfbfaf9f8, 5, 1 << 63, 77}
	first := fnv1a([]byte("\x00\x01\x02\x03\x04\x05\x06\x07\x08"))
	second := fnv1a([]byte("\x00\x00\x00\x00\x00\x00\x00\x00\x00"))
	third := fnv1a([]byte("\x00\xff\xff\xff\xff\xff\xff\xff\xff"))
	fourth := fnv1a([]byte("\x00\xff\xfe\xfd\xfc\xfb\xfa\xf9\xf8"))
	fifth := fnv1a([]byte("\x00\x00\x00\x00\x00\x00\x00\x00\x05"))
	sixth := fnv1a([]byte("\x00\x80\x00\x00\x00\x00\x00\x00\x00"))
	seventh := fnv1a([]byte("\x00\x00\x00\x00\x00\x00\x00\x00M"))
	four := pairNode(pairNode(first, second), pairNode(third, fourth))
	for i, want := range []uint64{
		first,
		pairNode(first, second),
		pairNode(pairNode(first, second), third),
		four,
		pairNode(four, fifth),
		pairNode(four, pairNode(fifth, sixth)),
		pairNode(four, pairNode(pairNode(fifth, sixth), seventh)),
	} {
		if got, e := digest.Root(l[:i+1]); got != want || e != api.OK {
			t.Errorf("Root of %d leaves: %x, %v; want %x", i+1, got, e, want)
		}
	}
	if got, e := digest.Root([]uint64{5}); got != digest.Sum([]byte{0, 0, 0, 0, 0, 0, 0, 0, 5}) || e != api.OK {
		t.Errorf("Root of the leaf 5: %x, %v", got, e)
	}
}

// P5.1, E3: trees of all numbers of leaves.
func TestRoot(t *testing.T) {
	for n := 1; n <= most; n++ {
		for _, leaves := range trees(n) {
			tree := levels(leaves)
			want := tree[len(tree)-1][0]
			if got, e := digest.Root(leaves); got != want || e != api.OK {
				t.Errorf("Root of %d leaves: %x, %v; want %x", n, got, e, want)
			}
		}
	}
}

// P5.1, E3 and E4: no leaves, and too many; this comes before an index that is wrong.
func TestLeavesErrors(t *testing.T) {
	for _, c := range []struct {
		leaves []uint64
		want   api.Errno
	}{
		{nil, api.ErrArg}, {[]uint64{}, api.ErrArg}, {make([]uint64, 0, 5), api.ErrArg},
		{randomLeaves(most + 1), api.ErrLimit}, {randomLeaves(most + 2), api.ErrLimit}, {randomLeaves(2 * most), api.ErrLimit}, {randomLeaves(1 << 16), api.ErrLimit}, {randomLeaves(1<<16 + 1), api.ErrLimit},
	} {
		if root, e := digest.Root(c.leaves); root != 0 || e != c.want {
			t.Errorf("Root of %d leaves: %x, %v", len(c.leaves), root, e)
		}
		for _, i := range append([]int{0, 1, 5, most - 1, most, len(c.leaves) - 1, len(c.leaves)}, notIndices...) {
			if path, e := digest.Path(c.leaves, i); len(path) != 0 || e != c.want {
				t.Errorf("Path of %d leaves, index %d: %v, %v", len(c.leaves), i, path, e)
			}
		}
	}
}

// P5.1, E4: an index that no leaf has.
func TestPathErrors(t *testing.T) {
	for _, n := range sizes() {
		leaves := randomLeaves(n)
		for _, i := range append([]int{-n, n, n + 1, 2*n + 1, n + most, most, most + 1}, notIndices...) {
			if 0 <= i && i < n {
				continue
			}
			if path, e := digest.Path(leaves, i); len(path) != 0 || e != api.ErrArg {
				t.Errorf("Path of %d leaves, index %d: %v, %v", n, i, path, e)
			}
		}
	}
}

// P5.1, E4: the example, and paths of trees with few leaves.
func TestPathCases(t *testing.T) {
	l := []uint64{11, 12, 13, 14, 15, 16, 17}
	a, b, c, d, e, f, g := leafNode(11), leafNode(12), leafNode(13), leafNode(14), leafNode(15), leafNode(16), leafNode(17)
	ab, cd, ef := pairNode(a, b), pairNode(c, d), pairNode(e, f)
	abcd, efg := pairNode(ab, cd), pairNode(ef, g)
	for _, x := range []struct {
		n, i int
		want []uint64
	}{
		{3, 2, []uint64{ab}}, {3, 0, []uint64{b, c}}, {3, 1, []uint64{a, c}},
		{1, 0, nil}, {2, 0, []uint64{b}}, {2, 1, []uint64{a}},
		{4, 0, []uint64{b, cd}}, {4, 1, []uint64{a, cd}}, {4, 2, []uint64{d, ab}}, {4, 3, []uint64{c, ab}},
		{5, 0, []uint64{b, cd, e}}, {5, 3, []uint64{c, ab, e}}, {5, 4, []uint64{abcd}},
		{6, 2, []uint64{d, ab, ef}}, {6, 4, []uint64{f, abcd}}, {6, 5, []uint64{e, abcd}},
		{7, 1, []uint64{a, cd, efg}}, {7, 4, []uint64{f, g, abcd}}, {7, 5, []uint64{e, g, abcd}}, {7, 6, []uint64{ef, abcd}},
	} {
		if got, e := digest.Path(l[:x.n], x.i); !slices.Equal(got, x.want) || e != api.OK {
			t.Errorf("Path of %d leaves, index %d: %x, %v; want %x", x.n, x.i, got, e, x.want)
		}
	}
}

// P5.1, E4.
func TestPath(t *testing.T) {
	for _, n := range sizes() {
		for _, leaves := range trees(n) {
			tree := levels(leaves)
			for _, i := range indices(n) {
				if got, want := pathOf(t, leaves, i), pathIn(tree, i); !slices.Equal(got, want) {
					t.Errorf("Path of %d leaves, index %d: %x; want %x", n, i, got, want)
				}
			}
		}
	}
}

// P5.1, E5: roots, leaves, indices, numbers of leaves and paths of one tree with those of others.
func TestCheck(t *testing.T) {
	came := map[bool]int{}
	for _, n := range []int{1, 2, 3, 4, 5, 6, 7, 8, 9, 13, 16, 17} {
		leaves := randomLeaves(n)
		tree := levels(leaves)
		for _, root := range []uint64{tree[len(tree)-1][0], tree[0][0], 0} {
			for i := range n {
				path := pathIn(tree, i)
				for j := -2; j <= n+2; j++ {
					for count := -1; count <= 19; count++ {
						got, want := digest.Check(root, leaves[i], j, count, path), accepts(root, leaves[i], j, count, path)
						if got != want {
							t.Errorf("Check of leaf %d of %d, as %d of %d: %v", i, n, j, count, got)
						}
						came[got]++
					}
				}
			}
		}
	}
	if came[true] < 100 || came[false] < 5000 {
		t.Errorf("results: %v", came)
	}
}

// P5.1, E5: what is asked is about a way and its root, not about a tree that has both. A way that is as long in
// trees with other numbers of leaves is right in these too.
func TestCheckOtherSizes(t *testing.T) {
	leaves := randomLeaves(5)
	root, path := rootOf(t, leaves), pathOf(t, leaves, 0)
	for n := -1; n <= 20; n++ {
		if got, want := digest.Check(root, leaves[0], 0, n, path), 5 <= n && n <= 8; got != want {
			t.Errorf("Check of the first leaf of 5, as one of %d: %v", n, got)
		}
	}
	two := pairNode(8, leafNode(3)) // 8 is the node of no leaf that is known
	if !digest.Check(two, 3, 1, 2, []uint64{8}) || digest.Check(two, 3, 0, 2, []uint64{8}) {
		t.Error("a path that was made up")
	}
}

// P5.1: what lies behind the arguments in memory is neither used nor changed.
func TestListArguments(t *testing.T) {
	text := []byte("barcarole, the box office of a lake stage")
	textBefore := slices.Clone(text)
	for length := range text {
		if got := digest.Sum(text[:length]); got != fnv1a(textBefore[:length]) || !slices.Equal(text, textBefore) {
			t.Fatalf("Sum(%q): %x; behind it %q", textBefore[:length], got, text[length:])
		}
	}
	for _, l := range intLists() {
		room := append(slices.Clone(l), 5, 6, 7)
		before := slices.Clone(room)
		if got := digest.Ints(room[:len(l)]...); got != digest.Ints(l...) || !slices.Equal(room, before) {
			t.Errorf("Ints(%v): %x; behind it %v", l, got, room[len(l):])
		}
	}
}

// P5.1: no function changes its arguments, nor what lies behind them in memory, and a path is new memory.
func TestTreeArguments(t *testing.T) {
	for _, n := range []int{1, 2, 3, 5, 8, 13, most} {
		room := append(randomLeaves(n), 1, 2, 3, 4, 5, 6, 7, 8)
		before, leaves := slices.Clone(room), room[:n]
		for _, i := range indices(n) {
			root, path := rootOf(t, leaves), pathOf(t, leaves, i)
			long := append(slices.Clone(path), 9, 9, 9, 9)
			longBefore := slices.Clone(long)
			if !digest.Check(root, leaves[i], i, n, long[:len(path)]) || digest.Check(root, leaves[i], i, n, long) {
				t.Errorf("Check of leaf %d of %d", i, n)
			}
			if !slices.Equal(room, before) || !slices.Equal(long, longBefore) {
				t.Fatalf("leaf %d of %d: arguments were changed", i, n)
			}
			for k := range path {
				path[k]++
			}
			if !slices.Equal(room, before) || rootOf(t, leaves) != root {
				t.Fatalf("leaf %d of %d: the path shares memory", i, n)
			}
		}
	}
}
