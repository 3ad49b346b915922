package digest_test

import (
	"encoding/binary"
	"fmt"
	"hash/fnv"
	"math"
	"math/rand/v2"
	"slices"
	"testing"

	"barcarole/api"
	"barcarole/digest"
)

const most = 1024 // leaves

// Leaves that have the same node in the first level, in pairs.
var equalLeaves = [][2]uint64{
	{0xd93b0eba579b814d, 0x2c97d05f2782d8a3}, {0xc176eab9fb55df4d, 0x868db5922473b4c3}, {0xf2a43b6b0b346ab2, 0x089a8fb5ceac6451},
	{0xeb428a6bfadc2f0b, 0xf12d73f5da2f9eab}, {0x5098888a60b86976, 0x5137529acac044c1},
}

// Leaves that have different nodes in the first level, in pairs: as first leaves
// they have the same node in the second level, whatever the second leaf is.
var equalFirsts = [][2]uint64{
	{0xe94e1ecbf82dbb6f, 0x1166e380283a4b20}, {0xec16b59476afd283, 0xe67d53db43a3b138}, {0xa099d6dd76144ad0, 0x218e2a8cf8eec7cc},
}

// notIndices are integers that are no index, and those that a narrower type or a sum would wrap into one.
var notIndices = []int{-1, -2, -1024, 1 << 16, 1 << 31, 1 << 32, 1<<32 + 1, -1 << 31, -1 << 32, 1 << 62, -1 << 62, math.MaxInt, math.MaxInt - 1, math.MinInt, math.MinInt + 1}

// fnv1a is the digest of bytes, by the library.
func fnv1a(b []byte) uint64 {
	h := fnv.New64a()
	h.Write(b)
	return h.Sum64()
}

// textOf is the text whose digest Ints is to return.
func textOf(l []int) string {
	text := ""
	for _, n := range l {
		text += fmt.Sprintf("%d ", n)
	}
	return text
}

// leafBytes are the bytes of a node of the first level.
func leafBytes(leaf uint64) []byte { return binary.BigEndian.AppendUint64([]byte{0}, leaf) }

// pairBytes are the bytes of a node that two nodes are combined to.
func pairBytes(a, b uint64) []byte {
	return binary.BigEndian.AppendUint64(binary.BigEndian.AppendUint64([]byte{1}, a), b)
}

func leafNode(leaf uint64) uint64 { return fnv1a(leafBytes(leaf)) }

func pairNode(a, b uint64) uint64 { return fnv1a(pairBytes(a, b)) }

// levels are all levels of a tree, as the document describes them.
func levels(leaves []uint64) [][]uint64 {
	var level []uint64
	for _, leaf := range leaves {
		level = append(level, leafNode(leaf))
	}
	list := [][]uint64{level}
	for len(level) > 1 {
		var next []uint64
		for pair := range slices.Chunk(level, 2) {
			if len(pair) == 2 {
				next = append(next, pairNode(pair[0], pair[1]))
			} else {
				next = append(next, pair[0])
			}
		}
		level = next
		list = append(list, level)
	}
	return list
}

// pathIn is the path of a leaf in a tree of some levels.
func pathIn(tree [][]uint64, i int) []uint64 {
	var path []uint64
	for _, level := range tree[:len(tree)-1] {
		switch {
		case i%2 == 1:
			path = append(path, level[i-1])
		case i+1 < len(level):
			path = append(path, level[i+1])
		}
		i /= 2
	}
	return path
}

// split is the greatest power of 2 that is less than n.
func split(n int) int {
	m := 1
	for 2*m < n {
		m *= 2
	}
	return m
}

// pathLength is how many nodes are beside the way, found from the root down.
func pathLength(i, n int) int {
	if n == 1 {
		return 0
	}
	m := split(n)
	if i >= m {
		return 1 + pathLength(i-m, n-m)
	}
	return 1 + pathLength(i, m)
}

// way is what is on the way of a leaf: the bytes of its nodes that do not come up unchanged, from the first level on.
// The path has the right length.
func way(leaf uint64, i, n int, path []uint64) [][]byte {
	if n == 1 {
		return [][]byte{leafBytes(leaf)}
	}
	m, last := split(n), len(path)-1
	if i >= m {
		below := way(leaf, i-m, n-m, path[:last])
		return append(below, pairBytes(path[last], end(below)))
	}
	below := way(leaf, i, m, path[:last])
	return append(below, pairBytes(end(below), path[last]))
}

// end is the digest at which a way ends.
func end(way [][]byte) uint64 { return fnv1a(way[len(way)-1]) }

// accepts is what the document requires of Check.
func accepts(root, leaf uint64, i, n int, path []uint64) bool {
	if n < 1 || n > most || i < 0 || i >= n || len(path) != pathLength(i, n) {
		return false
	}
	return end(way(leaf, i, n, path)) == root
}

// randomLeaves are leaves that all differ.
func randomLeaves(n int) []uint64 {
	random := rand.New(rand.NewPCG(5, uint64(n)))
	var list []uint64
	for range n {
		list = append(list, random.Uint64())
	}
	return list
}

// steepLeaves have their bytes at the ends of what a byte is, and are 0 and the greatest number among others.
func steepLeaves(n int) []uint64 {
	var list []uint64
	for i := range n {
		list = append(list, []uint64{0, math.MaxUint64, 1, 1 << 63, 0xff, 0xff << 56, 1 << 32, 0xff00ff00ff00ff00}[i*5%8])
	}
	return list
}

// alikeLeaves are all the same.
func alikeLeaves(n int) []uint64 { return slices.Repeat([]uint64{0x0123456789abcdef}, n) }

// trees are the leaves of trees of n leaves.
func trees(n int) [][]uint64 {
	return [][]uint64{randomLeaves(n), steepLeaves(n), alikeLeaves(n)}
}

// sizes are numbers of leaves: all small ones, and those next to powers of 2 up to the greatest one. With 3, 5, 9
// and so on up to 513 leaves, each level down to the last two nodes has an odd number of nodes.
func sizes() []int {
	var list []int
	for n := 1; n <= 130; n++ {
		list = append(list, n)
	}
	return append(list, 191, 255, 256, 257, 383, 511, 512, 513, 514, 515, 767, 768, 769, 1000, 1021, 1022, 1023, 1024)
}

// indices are all those of a small tree; of a large one the first and the last ones, and those next to powers of 2.
func indices(n int) []int {
	var list []int
	for i := range n {
		near := i&(i+1) == 0 || i&(i-1) == 0 || (i-1)&(i-2) == 0
		if n <= 130 || near || i < 5 || i >= n-5 || i%97 == 0 {
			list = append(list, i)
		}
	}
	return list
}

func rootOf(t *testing.T, leaves []uint64) uint64 {
	t.Helper()
	root, e := digest.Root(leaves)
	if e != api.OK {
		t.Fatalf("Root of %d leaves: %v", len(leaves), e)
	}
	return root
}

func pathOf(t *testing.T, leaves []uint64, i int) []uint64 {
	t.Helper()
	path, e := digest.Path(leaves, i)
	if e != api.OK {
		t.Fatalf("Path of %d leaves, index %d: %v", len(leaves), i, e)
	}
	return path
}
