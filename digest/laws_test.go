package digest_test

import (
	"bytes"
	"math"
	"math/rand/v2"
	"slices"
	"strconv"
	"testing"

	"barcarole/api"
	"barcarole/digest"
)

// checkByte finds whether strings that differ from one in the byte with an index have other digests, all different.
func checkByte(t *testing.T, b []byte, i int) {
	t.Helper()
	other, seen := slices.Clone(b), map[uint64]bool{}
	for n := range 256 {
		other[i] = byte(n)
		seen[digest.Sum(other)] = true
	}
	if len(seen) != 256 || !seen[digest.Sum(b)] {
		t.Errorf("%d bytes, byte %d: only %d digests", len(b), i, len(seen))
	}
}

// P5.2: one byte, at each index, with each value.
func TestOneByte(t *testing.T) {
	random := rand.New(rand.NewPCG(5, 3))
	for length := 1; length <= 70; length++ {
		mixed := make([]byte, length)
		for i := range mixed {
			mixed[i] = byte(random.Uint32())
		}
		for _, b := range [][]byte{mixed, make([]byte, length), slices.Repeat([]byte{255}, length)} {
			for i := range length {
				checkByte(t, b, i)
			}
		}
	}
	long := make([]byte, 5000)
	for _, i := range []int{0, 1, 255, 256, 4095, 4096, 4999} {
		checkByte(t, long, i)
	}
}

// P5.2: with the same bytes behind them, strings with equal digests keep equal ones, and others keep different ones.
func TestSameBehind(t *testing.T) {
	list := [][]byte{nil, {0}, {1}, []byte("a"), []byte("foobar"), []byte("\xd5\x6b\xb9\x53\x42\x87\x08\x36")}
	for _, pair := range equalLeaves {
		list = append(list, leafBytes(pair[0]), leafBytes(pair[1]))
	}
	for _, pair := range equalFirsts {
		for _, leaf := range pair {
			list = append(list, pairBytes(leafNode(leaf), 0)[:9])
		}
	}
	behind := append(byteStrings()[:2000:2000], bytes.Repeat([]byte("barcarole"), 1000))
	came := map[bool]int{}
	for i, a := range list {
		for _, b := range list[:i] {
			same := digest.Sum(a) == digest.Sum(b)
			came[same]++
			for _, more := range behind {
				if got := digest.Sum(slices.Concat(a, more)) == digest.Sum(slices.Concat(b, more)); got != same {
					t.Fatalf("%x and %x: %v, with %x behind them %v", a, b, same, more, got)
				}
			}
		}
	}
	if came[true] != len(equalLeaves)+len(equalFirsts) {
		t.Errorf("digests that are equal: %v", came)
	}
}

// P5.3: the digest of the text.
func TestIntsText(t *testing.T) {
	for _, l := range intLists() {
		if got, want := digest.Ints(l...), digest.Sum([]byte(textOf(l))); got != want {
			t.Errorf("Ints(%v): %x; digest of the text %x", l, got, want)
		}
	}
}

// otherDigits are the numbers that differ from a number in exactly one digit.
func otherDigits(n int) []int {
	var list []int
	text := strconv.Itoa(n)
	for i, old := range text {
		for digit := '0'; digit <= '9' && old != '-'; digit++ {
			changed := text[:i] + string(digit) + text[i+1:]
			if other, err := strconv.Atoi(changed); err == nil && strconv.Itoa(other) == changed && other != n {
				list = append(list, other)
			}
		}
	}
	return list
}

// P5.3: one digit of one number, whichever others stand beside it.
func TestOneDigit(t *testing.T) {
	pairs := 0
	numbers := []int{0, 1, 9, 10, -10, 99, 100, -205, 1000000, 4294967296, math.MaxInt, math.MinInt, math.MaxInt - 99, -1 << 40}
	for _, n := range numbers {
		for _, other := range otherDigits(n) {
			for _, l := range [][]int{{n}, {n, 0}, {0, n}, {-5, n, 17}, {math.MinInt, math.MaxInt, n, 3, 4, 5, 6, 7}} {
				changed := slices.Clone(l)
				changed[slices.Index(l, n)] = other
				if digest.Ints(l...) == digest.Ints(changed...) {
					t.Errorf("Ints(%v) and Ints(%v) are equal", l, changed)
				}
				pairs++
			}
		}
	}
	if pairs < 3000 {
		t.Errorf("only %d pairs", pairs)
	}
}

// P5.4: by the functions themselves.
func TestSplitTrees(t *testing.T) {
	for n := 2; n <= most; n++ {
		m := split(n)
		if m >= n || 2*m < n || m&(m-1) != 0 {
			t.Fatalf("%d is not the greatest power of 2 below %d", m, n)
		}
		for _, leaves := range trees(n) {
			want := digest.Sum(pairBytes(rootOf(t, leaves[:m]), rootOf(t, leaves[m:])))
			if got := rootOf(t, leaves); got != want {
				t.Errorf("%d leaves: root %x, of both trees %x", n, got, want)
			}
		}
	}
}

// P5.5: each leaf of small trees, and many of large ones.
func TestPathsAccepted(t *testing.T) {
	for _, n := range sizes() {
		for _, leaves := range trees(n) {
			root := rootOf(t, leaves)
			for _, i := range indices(n) {
				if !digest.Check(root, leaves[i], i, n, pathOf(t, leaves, i)) {
					t.Errorf("leaf %d of %d is not accepted", i, n)
				}
			}
		}
	}
}

// P5.5: each leaf of the largest trees, and of one with an odd node at each level.
func TestAllPathsAccepted(t *testing.T) {
	for _, n := range []int{513, most - 1, most} {
		leaves := randomLeaves(n)
		root := rootOf(t, leaves)
		for i, leaf := range leaves {
			if !digest.Check(root, leaf, i, n, pathOf(t, leaves, i)) {
				t.Errorf("leaf %d of %d is not accepted", i, n)
			}
		}
	}
}

// tree is one with leaves, and what is known of it.
type tree struct {
	leaves []uint64
	root   uint64
	paths  [][]uint64
}

func newTree(t *testing.T, leaves []uint64) tree {
	t.Helper()
	known := tree{leaves: leaves, root: rootOf(t, leaves)}
	for i := range leaves {
		known.paths = append(known.paths, pathOf(t, leaves, i))
	}
	return known
}

// same reports whether a leaf and a path are those of the tree.
func (k tree) same(leaf uint64, i int, path []uint64) bool {
	return leaf == k.leaves[i] && slices.Equal(path, k.paths[i])
}

// bound reports what the document requires of a leaf and a path that are accepted: they are those of the tree, or
// two different strings of bytes on the two ways have the same digest.
func (k tree) bound(leaf uint64, i int, path []uint64) bool {
	if k.same(leaf, i, path) {
		return true
	}
	n := len(k.leaves)
	for _, a := range way(leaf, i, n, path) {
		for _, b := range way(k.leaves[i], i, n, k.paths[i]) {
			if !bytes.Equal(a, b) && digest.Sum(a) == digest.Sum(b) {
				return true
			}
		}
	}
	return false
}

// check finds whether what Check says of a leaf and a path holds to the tree, and returns it.
func (k tree) check(t *testing.T, leaf uint64, i int, path []uint64) bool {
	t.Helper()
	accepted := digest.Check(k.root, leaf, i, len(k.leaves), path)
	if accepted && (len(path) != len(k.paths[i]) || !k.bound(leaf, i, path)) {
		t.Errorf("leaf %x as %d of %d, path %x: accepted", leaf, i, len(k.leaves), path)
	}
	if !accepted && k.same(leaf, i, path) {
		t.Errorf("leaf %x as %d of %d, path %x: not accepted", leaf, i, len(k.leaves), path)
	}
	return accepted
}

// P5.6: another leaf, other elements of the path, those of other leaves, and other roots, bit by bit.
func TestBinding(t *testing.T) {
	for _, n := range []int{1, 2, 3, 4, 5, 7, 9, 12, 16, 17, 31, 33} {
		for _, leaves := range trees(n) {
			k := newTree(t, leaves)
			for i, leaf := range leaves {
				path := k.paths[i]
				for bit := range 64 {
					if k.check(t, leaf^1<<bit, i, path) || digest.Check(k.root^1<<bit, leaf, i, n, path) {
						t.Errorf("leaf %d of %d, bit %d: accepted", i, n, bit)
					}
					for at := range path {
						changed := slices.Clone(path)
						changed[at] ^= 1 << bit
						if k.check(t, leaf, i, changed) {
							t.Errorf("leaf %d of %d, bit %d of element %d: accepted", i, n, bit, at)
						}
					}
				}
			}
		}
	}
}

// P5.6: leaves and paths that take each other's place. Where leaves are the same, they may be accepted.
func TestBindingExchanged(t *testing.T) {
	came := map[bool]int{}
	for _, n := range []int{2, 3, 4, 5, 6, 7, 8, 11, 16, 21} {
		for _, leaves := range trees(n) {
			k := newTree(t, leaves)
			for i := range n {
				for j := range n {
					came[k.check(t, leaves[j], i, k.paths[j])]++
					came[k.check(t, leaves[j], i, k.paths[i])]++
					came[k.check(t, leaves[i], i, k.paths[j])]++
					backwards := slices.Clone(k.paths[j])
					slices.Reverse(backwards)
					came[k.check(t, leaves[i], i, backwards)]++
					came[k.check(t, leafNode(leaves[j]), i, k.paths[i])]++
				}
			}
		}
	}
	if came[true] < 1000 || came[false] < 2000 {
		t.Errorf("results: %v", came)
	}
}

// P5.6: a leaf that is accepted in the place of another one, as both have the same node.
func TestBindingEqualLeaves(t *testing.T) {
	for _, pair := range equalLeaves {
		if leafNode(pair[0]) != leafNode(pair[1]) || pair[0] == pair[1] {
			t.Fatalf("%x: the nodes differ", pair)
		}
		for n := 1; n <= 9; n++ {
			for i := range n {
				leaves := randomLeaves(n)
				leaves[i] = pair[0]
				k := newTree(t, leaves)
				if !k.check(t, pair[1], i, k.paths[i]) || !k.check(t, pair[0], i, k.paths[i]) {
					t.Errorf("leaves %x as %d of %d", pair, i, n)
				}
			}
		}
	}
}

// P5.6: different nodes that are accepted in each other's place, on the way and beside it, as the nodes above them
// are the same.
func TestBindingEqualFirsts(t *testing.T) {
	for _, pair := range equalFirsts {
		a, b := leafNode(pair[0]), leafNode(pair[1])
		if a == b || pairNode(a, 5) != pairNode(b, 5) || pairNode(5, a) == pairNode(5, b) {
			t.Fatalf("%x: nodes %x, %x", pair, a, b)
		}
		for n := 2; n <= 9; n++ {
			leaves := randomLeaves(n)
			leaves[0] = pair[0]
			k := newTree(t, leaves)
			changed := slices.Clone(k.paths[1])
			changed[0] = b
			if !k.check(t, pair[1], 0, k.paths[0]) || !k.check(t, leaves[1], 1, changed) {
				t.Errorf("nodes %x and %x as first ones of %d", a, b, n)
			}
			leaves[0], leaves[1] = leaves[1], pair[0]
			k = newTree(t, leaves)
			if k.check(t, pair[1], 1, k.paths[1]) {
				t.Errorf("nodes %x and %x as second ones of %d", a, b, n)
			}
		}
	}
}

// checkLengths finds whether a path with elements more or less is refused.
func checkLengths(t *testing.T, k tree, i int) {
	t.Helper()
	n, leaf, path := len(k.leaves), k.leaves[i], k.paths[i]
	for at := range path {
		for _, short := range [][]uint64{slices.Delete(slices.Clone(path), at, at+1), path[:at], path[at+1:]} {
			if digest.Check(k.root, leaf, i, n, short) {
				t.Errorf("leaf %d of %d, %d elements of %d: accepted", i, n, len(short), len(path))
			}
		}
	}
	for at := range len(path) + 1 {
		for _, more := range []uint64{0, k.root, leaf, leafNode(leaf), append(path[:len(path):len(path)], 7)[at]} {
			if digest.Check(k.root, leaf, i, n, slices.Insert(slices.Clone(path), at, more)) {
				t.Errorf("leaf %d of %d, with %x as element %d: accepted", i, n, more, at)
			}
		}
	}
	for _, more := range [][]uint64{{0, 0}, path, make([]uint64, 64), make([]uint64, 2000)} {
		if len(more) > 0 && digest.Check(k.root, leaf, i, n, slices.Concat(path, more)) {
			t.Errorf("leaf %d of %d, %d elements more: accepted", i, n, len(more))
		}
	}
}

// P5.7: paths that are too long or too short.
func TestLengths(t *testing.T) {
	for _, n := range append(sizes()[:40:40], 513, most-1, most) {
		leaves := randomLeaves(n)
		k := tree{leaves: leaves, root: rootOf(t, leaves), paths: make([][]uint64, n)}
		for _, i := range indices(n) {
			k.paths[i] = pathOf(t, leaves, i)
			checkLengths(t, k, i)
		}
	}
}

// goUp is where a way ends that goes up along a path, one level an element.
func goUp(leaf uint64, i int, path []uint64) uint64 {
	node := leafNode(leaf)
	for _, other := range path {
		if i%2 == 1 {
			node = pairNode(other, node)
		} else {
			node = pairNode(node, other)
		}
		i /= 2
	}
	return node
}

// P5.7: the same with a root that is where the way ends with this path, or with as many zeros as are missing or more.
func TestLengthsToRoot(t *testing.T) {
	for i := range 4 {
		for length := range 8 {
			for _, other := range []uint64{0, 3, math.MaxUint64} {
				path := slices.Repeat([]uint64{other}, length)
				if got := digest.Check(goUp(9, i, path), 9, i, 4, path); got != (length == 2) {
					t.Errorf("a way of %d elements in a tree of 4 leaves, index %d: %v", length, i, got)
				}
			}
			root := goUp(9, i, []uint64{0, 0})
			if got := digest.Check(root, 9, i, 4, make([]uint64, length)); got != (length == 2) {
				t.Errorf("%d zeros for 2 in a tree of 4 leaves, index %d: %v", length, i, got)
			}
		}
	}
}

// P5.7: a way through the root goes on above it, or ends below it.
func TestLengthsAround(t *testing.T) {
	leaves := randomLeaves(8)
	k := newTree(t, leaves)
	above := rootOf(t, append(slices.Clone(leaves), randomLeaves(8)...))
	for i, leaf := range leaves {
		if digest.Check(pairNode(k.root, 7), leaf, i, 8, append(k.paths[i][:3:3], 7)) || digest.Check(above, leaf, i, 8, k.paths[i]) {
			t.Errorf("leaf %d: accepted above the root", i)
		}
		below := rootOf(t, leaves[i/4*4:i/4*4+4])
		if digest.Check(below, leaf, i, 8, k.paths[i][:2]) || digest.Check(below, leaf, i, 8, k.paths[i]) || !digest.Check(below, leaf, i%4, 4, k.paths[i][:2]) {
			t.Errorf("leaf %d: below the root", i)
		}
	}
}

// P5.7: indices and numbers of leaves that no tree has, with a path and a root that would suit.
func TestNoIndex(t *testing.T) {
	for _, n := range []int{1, 2, 3, 4, 5, 8, 9, 513, most - 1, most} {
		leaves := randomLeaves(n)
		root := rootOf(t, leaves)
		for _, i := range indices(n) {
			path := pathOf(t, leaves, i)
			wrong := append([]int{n, n + 1, n + i, 2 * n, most, most + i, i - n, i - most, i - 2*most, i + 1<<32, i + 1<<62, math.MinInt + i, -i - 1, ^i}, notIndices...)
			for _, j := range wrong {
				if (j < 0 || j >= n) && digest.Check(root, leaves[i], j, n, path) {
					t.Errorf("leaf %d of %d as %d: accepted", i, n, j)
				}
			}
			for _, count := range append([]int{0, -n, i, most + 1, most + 2, 2 * most, n + 1<<32, n - 1<<32, math.MinInt + n}, notIndices...) {
				if (count < 1 || count > most || count <= i) && digest.Check(root, leaves[i], i, count, path) {
					t.Errorf("leaf %d of %d as one of %d: accepted", i, n, count)
				}
			}
		}
	}
}

// P5.7: trees with more than 1024 leaves, whose paths are right but for this.
func TestNoTree(t *testing.T) {
	for _, n := range []int{most + 1, most + 2, 2 * most} {
		leaves := randomLeaves(n)
		tree := levels(leaves)
		root := tree[len(tree)-1][0]
		for _, i := range []int{0, 1, most - 1, most, n - 1} {
			if path := pathIn(tree, i); len(path) != pathLength(i, n) || digest.Check(root, leaves[i], i, n, path) {
				t.Errorf("leaf %d of %d: accepted", i, n)
			}
		}
	}
	if path, e := digest.Path(randomLeaves(most), most-1); len(path) != 10 || e != api.OK {
		t.Errorf("path of the last leaf: %d elements, %v", len(path), e)
	}
}
