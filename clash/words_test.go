package clash_test

import (
	"bytes"
	"cmp"
	"maps"
	"math/rand/v2"
	"slices"
	"testing"

	"rubrick/seal"
	"rubrick/sha"
)

// split returns the greatest power of two less than n, for n from 2 on.
func split(n int) int {
	k := 1
	for 2*k < n {
		k *= 2
	}
	return k
}

// node returns the digest of a node, whatever its parts are.
func node(l, r string) string {
	return sha.Sum([]byte("\x01" + l + r))
}

// leafBytes returns the bytes of a leaf's seal.
func leafBytes(b []byte) []byte {
	return append([]byte{0}, b...)
}

// nodeBytes returns the bytes of a node's seal.
func nodeBytes(l, r string) []byte {
	return []byte("\x01" + l + r)
}

// reference returns the root of leaves as the words say it.
func reference(l [][]byte) string {
	switch len(l) {
	case 0:
		return sha.Sum(nil)
	case 1:
		return sha.Sum(leafBytes(l[0]))
	}
	k := split(len(l))
	return node(reference(l[:k]), reference(l[k:]))
}

// part is where some of the leaves stand, from from to below to.
type part struct{ from, to int }

// halves returns both parts of more than one leaf.
func (p part) halves() (part, part) {
	k := p.from + split(p.to-p.from)
	return part{p.from, k}, part{k, p.to}
}

// pathParts returns whose roots the digests of a path for the index i of some leaves are.
func pathParts(i int, p part) []part {
	if p.to-p.from == 1 {
		return nil
	}
	left, right := p.halves()
	if i < left.to {
		return append(pathParts(i, left), right)
	}
	return append(pathParts(i, right), left)
}

// proofParts returns whose roots the digests of a proof are, for the leaves of p below m.
func proofParts(m int, p part, partial bool) []part {
	if m == p.to {
		if partial {
			return []part{p}
		}
		return nil
	}
	left, right := p.halves()
	if m <= left.to {
		return append(proofParts(m, left, partial), right)
	}
	return append(proofParts(m, right, true), left)
}

// claim is what is claimed of some leaves: the roots of parts that are given, from which others are computed.
type claim map[part]string

// claims returns the claim that the roots of the parts are the digests.
func claims(parts []part, digests []string) claim {
	out := claim{}
	for i, p := range parts {
		out[p] = digests[i]
	}
	return out
}

// root returns the root that is claimed of a part.
func (c claim) root(p part) string {
	if d, ok := c[p]; ok {
		return d
	}
	left, right := p.halves()
	return node(c.root(left), c.root(right))
}

// nodes returns the nodes that are computed for the root of a part, from there downwards, each with that of the leaves l.
func (c claim) nodes(l [][]byte, p part) []seal.Clash {
	if _, ok := c[p]; ok {
		return nil
	}
	left, right := p.halves()
	out := []seal.Clash{{
		A: nodeBytes(c.root(left), c.root(right)),
		B: nodeOf(l, p),
	}}
	return slices.Concat(out, c.nodes(l, left), c.nodes(l, right))
}

// consClaim returns what is claimed by a proof of the right length that a is a prefix of b.
func consClaim(a, b [][]byte, proof []string) claim {
	parts := proofParts(len(a), part{0, len(b)}, false)
	c := claims(parts, proof)
	// Only if no root of a part of a is in the proof, a's own takes its place.
	if !slices.ContainsFunc(parts, func(p part) bool { return p.to <= len(a) }) {
		c[part{0, len(a)}] = reference(a)
	}
	return c
}

// leafPairs returns the pairs that are considered for a leaf with a path of the right length.
func leafPairs(l [][]byte, i int, leaf []byte, path []string) []seal.Clash {
	all := part{0, len(l)}
	c := claims(pathParts(i, all), path)
	c[part{i, i + 1}] = sha.Sum(leafBytes(leaf))
	return append(c.nodes(l, all), seal.Clash{A: leafBytes(leaf), B: leafBytes(l[i])})
}

// twoPairs returns the pairs that are considered for two lists of the same length, which is not 0.
func twoPairs(a, b [][]byte) []seal.Clash {
	if len(a) == 1 {
		return []seal.Clash{{A: leafBytes(a[0]), B: leafBytes(b[0])}}
	}
	k, all := split(len(a)), part{0, len(a)}
	out := []seal.Clash{{A: nodeOf(a, all), B: nodeOf(b, all)}}
	return slices.Concat(out, twoPairs(a[:k], b[:k]), twoPairs(a[k:], b[k:]))
}

// consPairs returns the pairs that are considered for a proof of the right length.
func consPairs(a, b [][]byte, proof []string) []seal.Clash {
	c := consClaim(a, b, proof)
	out := append(c.nodes(a, part{0, len(a)}), c.nodes(b, part{0, len(b)})...)
	byFrom := func(p, q part) int { return cmp.Compare(p.from, q.from) }
	for _, p := range slices.SortedFunc(maps.Keys(c), byFrom) {
		if p.to <= len(a) {
			out = append(out, twoPairs(a[p.from:p.to], b[p.from:p.to])...)
		}
	}
	return out
}

// collides reports whether a pair is a collision.
func collides(c seal.Clash) bool {
	return !bytes.Equal(c.A, c.B) && sha.Sum(c.A) == sha.Sum(c.B)
}

// collisions returns those of the pairs that are collisions.
func collisions(pairs []seal.Clash) []seal.Clash {
	return slices.DeleteFunc(slices.Clone(pairs), func(c seal.Clash) bool { return !collides(c) })
}

// same reports whether two collisions are equal, where nil and empty slices are.
func same(c, d seal.Clash) bool {
	return bytes.Equal(c.A, d.A) && bytes.Equal(c.B, d.B)
}

// none reports whether a result says that there is no collision.
func none(c seal.Clash, ok bool) bool {
	return !ok && len(c.A) == 0 && len(c.B) == 0
}

// tally counts searches, and those for which there are several different collisions to choose from.
type tally struct{ found, several, nothing int }

// look counts the collisions among the pairs, and tells if another one than the first was found.
func (y *tally) look(t *testing.T, name string, pairs []seal.Clash, got seal.Clash, ok bool) {
	t.Helper()
	l := collisions(pairs)
	if len(l) == 0 {
		y.nothing++
		if !none(got, ok) {
			t.Errorf("%s: %x, %v in place of none", name, got, ok)
		}
		return
	}
	y.found++
	if !same(l[0], l[len(l)-1]) {
		y.several++
	}
	if !ok || !same(got, l[0]) {
		t.Errorf("%s: %x, %v in place of %x", name, got, ok, l[0])
	}
}

// enough tells if there was too little to look at.
func (y *tally) enough(t *testing.T) {
	t.Helper()
	if y.found < 100 || y.several < 100 || y.nothing < 100 {
		t.Errorf("%d with a collision, %d with several, %d with none", y.found, y.several, y.nothing)
	}
}

// dice returns a source of numbers, always the same ones.
func dice() *rand.Rand {
	return rand.New(rand.NewPCG(1, 2))
}

// someLeaf returns a leaf of few bytes, or of none.
func someLeaf(r *rand.Rand) []byte {
	b := make([]byte, r.IntN(3))
	for i := range b {
		b[i] = byte(r.IntN(256))
	}
	return b
}

// someLeaves returns n leaves.
func someLeaves(r *rand.Rand, n int) [][]byte {
	var out [][]byte
	for range n {
		out = append(out, someLeaf(r))
	}
	return out
}

// changedLeaves returns a list that differs from l in some of its leaves, or in none.
func changedLeaves(r *rand.Rand, l [][]byte) [][]byte {
	out := slices.Clone(l)
	for i := range out {
		if r.IntN(4) == 0 {
			out[i] = someLeaf(r)
		}
	}
	return out
}

// someDigests returns n digests.
func someDigests(r *rand.Rand, n int) []string {
	var out []string
	for range n {
		out = append(out, sha.Sum([]byte{byte(r.IntN(256)), byte(r.IntN(256))}))
	}
	return out
}

// numbered returns n different leaves.
func numbered(n int) [][]byte {
	var out [][]byte
	for i := range n {
		out = append(out, []byte{byte(i)})
	}
	return out
}

// withTwin returns a list with another leaf at the index i, which has the digest of l's.
func withTwin(t *testing.T, l [][]byte, i int) [][]byte {
	t.Helper()
	out := slices.Clone(l)
	for j := range 1 << 20 {
		out[i] = []byte{byte(j >> 16), byte(j >> 8), byte(j), 255}
		if collides(twinPair(out, l, i)) {
			return out
		}
	}
	t.Fatalf("no leaf but %x has its digest", l[i])
	return nil
}

// withNode returns a list with another first and last leaf in a part, of which the halves have other roots than l's, but the part has the same one.
func withNode(t *testing.T, l [][]byte, p part) [][]byte {
	t.Helper()
	r, out, right := dice(), slices.Clone(l), rootOf(l, p)
	for range 1 << 20 {
		out[p.from], out[p.to-1] = someLeaf(r), someLeaf(r)
		if rootOf(out, p) == right && collides(nodePair(out, l, p)) {
			return out
		}
	}
	t.Fatalf("no leaves but %x and %x are right", l[p.from], l[p.to-1])
	return nil
}

// otherDigest returns a digest that is not d, but for which what is made of it is the same.
func otherDigest(t *testing.T, d string, made func(d string) string) string {
	t.Helper()
	right := made(d)
	for i := range 1 << 20 {
		other := d[:29] + string([]byte{byte(i >> 16), byte(i >> 8), byte(i)})
		if other != d && made(other) == right {
			return other
		}
	}
	t.Fatalf("no digest but %x does", d)
	return ""
}

// rootOf returns the root of a part of l.
func rootOf(l [][]byte, p part) string {
	return reference(l[p.from:p.to])
}

// nodeOf returns the bytes of the node at the root of a part of l.
func nodeOf(l [][]byte, p part) []byte {
	left, right := p.halves()
	return nodeBytes(rootOf(l, left), rootOf(l, right))
}

// sizes are numbers of leaves: few ones, and powers of two with one more and one less.
func sizes() []int {
	return []int{1, 2, 3, 4, 5, 6, 7, 8, 9, 10, 11, 12, 13, 14, 15, 16, 17, 31, 32, 33}
}

// twinPair returns the pair of the leaves at the index i.
func twinPair(a, b [][]byte, i int) seal.Clash {
	return seal.Clash{A: leafBytes(a[i]), B: leafBytes(b[i])}
}

// nodePair returns the pair of the nodes at the root of a part.
func nodePair(a, b [][]byte, p part) seal.Clash {
	return seal.Clash{A: nodeOf(a, p), B: nodeOf(b, p)}
}
