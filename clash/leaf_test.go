package clash_test

import (
	"math"
	"slices"
	"strings"
	"testing"

	"rubrick/api"
	"rubrick/clash"
	"rubrick/seal"
	"rubrick/sha"
	"rubrick/tree"
)

// pathOf returns the path of an index of leaves.
func pathOf(t *testing.T, l [][]byte, i int) []string {
	t.Helper()
	p, e := tree.Path(tree.Leaves(l), i)
	if e != api.OK {
		t.Fatalf("Path of %d in %d: %d", i, len(l), e)
	}
	return p
}

// around returns the part of each node from an index upwards, in a list of n leaves.
func around(i, n int) []part {
	p := part{0, n}
	var out []part
	for p.to-p.from > 1 {
		out = append(out, p)
		left, right := p.halves()
		p = right
		if i < left.to {
			p = left
		}
	}
	slices.Reverse(out)
	return out
}

// withSibling returns a path with another digest at the index j, of which the node of its step has the digest it had.
func withSibling(t *testing.T, l [][]byte, i, j int, path []string) ([]string, seal.Clash) {
	t.Helper()
	p := around(i, len(l))[j]
	half, rest := p.halves()
	left, right := rootOf(l, half), rootOf(l, rest)
	bytesWith := func(d string) []byte {
		if i < half.to {
			return nodeBytes(left, d)
		}
		return nodeBytes(d, right)
	}
	out := slices.Clone(path)
	out[j] = otherDigest(t, path[j], func(d string) string { return sha.Sum(bytesWith(d)) })
	return out, seal.Clash{A: bytesWith(out[j]), B: nodeOf(l, p)}
}

// expectLeaf tells if the claim of a leaf does not yield the collision want.
func expectLeaf(t *testing.T, l [][]byte, i int, leaf []byte, path []string, want seal.Clash) {
	t.Helper()
	c, ok := clash.Leaf(l, i, leaf, path)
	if !ok || !same(c, want) || !seal.Is(c) {
		t.Errorf("Leaf %d of %d: %x, %v in place of %x", i, len(l), c, ok, want)
	}
}

// P8.1: no collision of SHA-256 is found, neither where all is honest, nor where nothing is.
func TestLeafNone(t *testing.T) {
	for _, n := range append(sizes(), 100) {
		l := numbered(n)
		for i := range n {
			path := pathOf(t, l, i)
			other := slices.Repeat([]string{reference(l)}, len(path))
			for _, leaf := range [][]byte{l[i], []byte("x"), nil, l[0], l[n-1]} {
				for _, p := range [][]string{path, other} {
					if c, ok := clash.Leaf(l, i, leaf, p); !none(c, ok) {
						t.Errorf("Leaf %d of %d, claimed %x: %x, %v", i, n, leaf, c, ok)
					}
				}
			}
		}
	}
}

// P8.1: the first of all collisions, from the root downwards, also if the claim does not lead to the root.
func TestWeakLeafFirst(t *testing.T) {
	if !weakly(t, few) {
		return
	}
	r, y := dice(), tally{}
	for _, n := range sizes() {
		for range 100 {
			l, i := someLeaves(r, n), r.IntN(n)
			honest := pathOf(t, l, i)
			mixed := someDigests(r, len(honest))
			for j := range mixed {
				if r.IntN(2) == 0 {
					mixed[j] = honest[j]
				}
			}
			for _, p := range [][]string{honest, someDigests(r, len(honest)), mixed} {
				for _, leaf := range [][]byte{someLeaf(r), l[i]} {
					c, ok := clash.Leaf(l, i, leaf, p)
					y.look(t, "Leaf", leafPairs(l, i, leaf, p), c, ok)
				}
			}
		}
	}
	y.enough(t)
}

// P8.1: the leaf itself collides, with whatever path, and with honest nodes above it.
func TestWeakLeafTwin(t *testing.T) {
	if !weakly(t, many) {
		return
	}
	for _, n := range sizes() {
		l := numbered(n)
		for i := range n {
			leaf := withTwin(t, l, i)[i]
			want := seal.Clash{A: leafBytes(leaf), B: leafBytes(l[i])}
			path := pathOf(t, l, i)
			expectLeaf(t, l, i, leaf, path, want)
			// No node has these digests, so that only the leaf collides, as long as their sums do not happen to.
			wild := slices.Repeat([]string{strings.Repeat("x", 32)}, len(path))
			if len(collisions(leafPairs(l, i, leaf, wild))) == 1 {
				expectLeaf(t, l, i, leaf, wild, want)
			}
		}
	}
}

// P8.1: a node collides, at each step, and comes before one below it and before the leaf.
func TestWeakLeafNodes(t *testing.T) {
	if !weakly(t, many) {
		return
	}
	for _, n := range sizes() {
		l := numbered(n)
		for _, i := range []int{0, n / 3, n / 2, n - 1} {
			leaf := withTwin(t, l, i)[i]
			lower := pathOf(t, l, i)
			for j := range lower {
				path, want := withSibling(t, l, i, j, pathOf(t, l, i))
				expectLeaf(t, l, i, l[i], path, want)
				expectLeaf(t, l, i, leaf, path, want)
				lower, _ = withSibling(t, l, i, j, lower)
				expectLeaf(t, l, i, leaf, lower, want)
			}
		}
	}
}

// P8.4: what leads to the root, but is not the leaf, yields a collision.
func TestWeakLeafProved(t *testing.T) {
	if !weakly(t, few) {
		return
	}
	r, found := dice(), 0
	for _, n := range sizes() {
		for range 200 {
			l, i := someLeaves(r, n), r.IntN(n)
			honest := pathOf(t, l, i)
			for _, p := range [][]string{honest, someDigests(r, len(honest))} {
				leaf := someLeaf(r)
				root, e := tree.Climb(seal.Leaf(leaf), i, n, p)
				if e != api.OK || root != reference(l) || slices.Equal(leaf, l[i]) {
					continue
				}
				found++
				if c, ok := clash.Leaf(l, i, leaf, p); !ok || !collides(c) || !seal.Is(c) {
					t.Errorf("Leaf %d of %x, claimed %x with %x: %x, %v", i, l, leaf, p, c, ok)
				}
			}
		}
	}
	if found < 100 {
		t.Errorf("%d claims to look at", found)
	}
}

// P8.1: nothing is found at an index that there is not, though each leaf and the path would yield a collision.
func TestWeakLeafOutside(t *testing.T) {
	if !weakly(t, many) {
		return
	}
	for _, n := range sizes() {
		l := numbered(n)
		leaf := withTwin(t, l, 0)[0]
		for i := range l {
			l[i] = l[0]
		}
		for at := range n {
			path := pathOf(t, l, at)
			expectLeaf(t, l, at, leaf, path, seal.Clash{A: leafBytes(leaf), B: leafBytes(l[0])})
			for _, i := range []int{-1, -n, n, n + 1, 2 * n, at - n - 1, at + 1<<32, at + math.MinInt, at - 1<<32, 1 << 40, math.MinInt, math.MaxInt} {
				if i >= 0 && i < n {
					continue
				}
				if c, ok := clash.Leaf(l, i, leaf, path); !none(c, ok) {
					t.Errorf("Leaf %d of %d: %x, %v", i, n, c, ok)
				}
			}
		}
		for _, i := range []int{-1, 0, 1, math.MinInt, math.MaxInt} {
			for _, empty := range [][][]byte{nil, {}, l[:0]} {
				if c, ok := clash.Leaf(empty, i, leaf, nil); !none(c, ok) {
					t.Errorf("Leaf %d of none: %x, %v", i, c, ok)
				}
			}
		}
	}
}

// P8.1: nothing is found with a path of another length, or with an element that is no digest, though the leaf collides.
func TestWeakLeafWrongPath(t *testing.T) {
	if !weakly(t, many) {
		return
	}
	for _, n := range sizes() {
		l := numbered(n)
		for i := range n {
			leaf, path, extra := withTwin(t, l, i)[i], pathOf(t, l, i), reference(l)
			wrong := [][]string{
				append(slices.Clone(path), extra), append([]string{extra}, path...), append(slices.Clone(path), ""),
				append(slices.Clone(path), path...), slices.Repeat([]string{extra}, 64),
			}
			if len(path) > 0 {
				wrong = append(wrong, nil, path[1:], path[:len(path)-1])
			}
			for j := range path {
				for _, d := range []string{"", "x", path[j][:31], path[j] + "x", path[j] + path[j], path[j][1:]} {
					p := slices.Clone(path)
					p[j] = d
					wrong = append(wrong, p)
				}
			}
			if len(path) > 1 {
				shifted := slices.Clone(path)
				shifted[0], shifted[1] = path[0][:31], path[1]+"x"
				wrong = append(wrong, shifted)
			}
			for _, p := range wrong {
				if len(p) == len(path) && len(path) == 0 {
					continue
				}
				if c, ok := clash.Leaf(l, i, leaf, p); !none(c, ok) {
					t.Errorf("Leaf %d of %d with %x: %x, %v", i, n, p, c, ok)
				}
			}
		}
	}
}
