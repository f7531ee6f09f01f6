package clash

import (
	"slices"

	"rubrick/seal"
	"rubrick/tree"
)

// finder looks for a collision, and returns whether there is one.
type finder func() (seal.Clash, bool)

// first returns the collision of the first finder that finds one.
func first(finders ...finder) (seal.Clash, bool) {
	for _, find := range finders {
		if c, ok := find(); ok {
			return c, true
		}
	}
	return seal.Clash{}, false
}

// pair looks at a pair of byte strings.
func pair(a, b []byte) finder {
	return func() (seal.Clash, bool) { return seal.Between(a, b) }
}

// leaves looks at the bytes of two leaves.
func leaves(a, b []byte) finder {
	return pair(seal.LeafBytes(a), seal.LeafBytes(b))
}

// lists looks at two lists with the same number of leaves, which is not 0, from their roots downwards and from left to right.
func lists(a, b list) finder {
	return func() (seal.Clash, bool) {
		k := a.split()
		if k == 0 {
			return first(leaves(a.leaves[0], b.leaves[0]))
		}
		return first(pair(a.node(), b.node()), lists(a.start(k), b.start(k)), lists(a.rest(k), b.rest(k)))
	}
}

// claimed returns what looks at the nodes on the way from the root of l downwards to the index i, and then at the leaf.
// The path needs to be one of this index.
func claimed(l list, i int, leaf []byte, path []string) []finder {
	var out []finder
	d := seal.Leaf(leaf)
	for len(path) > 0 {
		k, own, last := l.split(), l.node(), len(path)-1
		sibling := path[last]
		path = path[:last]
		if i < k {
			l = l.start(k)
			below, _ := tree.Climb(d, i, len(l.leaves), path)
			out = append(out, pair(seal.NodeBytes(below, sibling), own))
		} else {
			l, i = l.rest(k), i-k
			below, _ := tree.Climb(d, i, len(l.leaves), path)
			out = append(out, pair(seal.NodeBytes(sibling, below), own))
		}
	}
	return append(out, leaves(leaf, l.leaves[0]))
}

// course is what is computed from a proof for two lists: the roots of both, and what looks at the nodes of the first list, at those of the second one, and at the parts of the first one.
// Nodes are in order from the root downwards, parts from left to right.
type course struct {
	one, two          string
	ones, twos, parts []finder
}

// computed returns what is computed from a proof, partial or not, that a is a prefix of b. The proof needs to be of the right length, and a not empty.
func computed(a, b list, proof []string, partial bool) course {
	if len(a.leaves) == len(b.leaves) {
		d := a.root()
		if partial {
			d = proof[0]
		}
		return course{one: d, two: d, parts: []finder{lists(a, b)}}
	}
	k, last := b.split(), len(proof)-1
	sibling := proof[last]
	if len(a.leaves) <= k {
		c := computed(a, b.start(k), proof[:last], partial)
		c.twos = slices.Insert(c.twos, 0, pair(seal.NodeBytes(c.two, sibling), b.node()))
		c.two = node(c.two, sibling)
		return c
	}
	c := computed(a.rest(k), b.rest(k), proof[:last], true)
	c.ones = slices.Insert(c.ones, 0, pair(seal.NodeBytes(sibling, c.one), a.node()))
	c.twos = slices.Insert(c.twos, 0, pair(seal.NodeBytes(sibling, c.two), b.node()))
	c.parts = slices.Insert(c.parts, 0, lists(a.start(k), b.start(k)))
	c.one, c.two = node(sibling, c.one), node(sibling, c.two)
	return c
}

// node returns the seal of the node of two strings that are known to be digests.
func node(l, r string) string {
	d, _ := seal.Node(l, r)
	return d
}
