package clash_test

import (
	"bytes"
	"slices"
	"testing"

	"rubrick/api"
	"rubrick/clash"
	"rubrick/cons"
	"rubrick/seal"
	"rubrick/tree"
)

// proofOf returns the proof for the first m leaves of l.
func proofOf(t *testing.T, l [][]byte, m int) []string {
	t.Helper()
	p, e := cons.Prove(tree.Leaves(l), m)
	if e != api.OK {
		t.Fatalf("Prove for %d of %d: %d", m, len(l), e)
	}
	return p
}

// accepted reports whether a proof is accepted for the roots of two lists.
func accepted(a, b [][]byte, proof []string) bool {
	return cons.Check(len(a), len(b), reference(a), reference(b), proof) == api.OK
}

// isPrefix reports whether a is a prefix of b.
func isPrefix(a, b [][]byte) bool {
	return len(a) <= len(b) && slices.EqualFunc(a, b[:len(a)], bytes.Equal)
}

// expectCons tells if a proof is not accepted, or does not yield the collision want.
func expectCons(t *testing.T, a, b [][]byte, proof []string, want seal.Clash) {
	t.Helper()
	if !accepted(a, b, proof) {
		t.Errorf("%d of %d: the proof is not accepted", len(a), len(b))
	}
	c, ok := clash.Cons(a, b, proof)
	if !ok || !same(c, want) || !seal.Is(c) {
		t.Errorf("Cons for %d of %d: %x, %v in place of %x", len(a), len(b), c, ok, want)
	}
}

// expectNoCons tells if anything is found.
func expectNoCons(t *testing.T, a, b [][]byte, proof []string) {
	t.Helper()
	if c, ok := clash.Cons(a, b, proof); !none(c, ok) {
		t.Errorf("Cons for %d of %d with %d digests: %x, %v", len(a), len(b), len(proof), c, ok)
	}
}

// lengths is a number of leaves, of n.
type lengths struct{ m, n int }

// someLengths are such numbers, all of them for few leaves.
func someLengths() []lengths {
	var out []lengths
	for _, n := range sizes() {
		for m := 1; m <= n; m++ {
			if n < 10 || m < 5 || m > n-3 || m == split(n) || m == split(n)+1 {
				out = append(out, lengths{m, n})
			}
		}
	}
	return out
}

// P8.3: no collision of SHA-256 is found, neither where all is honest, nor where nothing is.
func TestConsNone(t *testing.T) {
	for _, n := range append(sizes(), 100) {
		l := numbered(n + 1)
		for m := range n + 1 {
			proof := proofOf(t, l[:n], m)
			expectNoCons(t, l[:m], l[:n], proof)
			expectNoCons(t, l[n+1-m:], l[:n], proof)
			expectNoCons(t, l[:n], l[:m], proof)
			expectNoCons(t, l[:m], l[:n], append(proof, reference(l)))
		}
	}
}

// proofsFor returns proofs for two lists, honest ones for b and for what begins with a, ones with other digests, and ones that consist of others.
func proofsFor(t *testing.T, a, b [][]byte, others []string) [][]string {
	t.Helper()
	m := len(a)
	honest := proofOf(t, b, m)
	continued := proofOf(t, append(slices.Clone(a), b[m:]...), m)
	out := [][]string{honest, continued, others[:len(honest)]}
	for j := range honest {
		p := slices.Clone(honest)
		p[j] = others[j]
		out = append(out, p)
	}
	return out
}

// P8.3, P8.6: the first of all collisions for proofs that are accepted, and one for each that is not true; none for other proofs.
func TestWeakConsFirst(t *testing.T) {
	if !weakly(t, few) {
		return
	}
	r, y, untrue := dice(), tally{}, 0
	for _, s := range someLengths() {
		for range 25 {
			b := someLeaves(r, s.n)
			for _, a := range [][][]byte{b[:s.m], changedLeaves(r, b[:s.m]), someLeaves(r, s.m)} {
				for _, p := range proofsFor(t, a, b, someDigests(r, 10)) {
					c, ok := clash.Cons(a, b, p)
					if !accepted(a, b, p) {
						y.look(t, "Cons", nil, c, ok)
						continue
					}
					y.look(t, "Cons", consPairs(a, b, p), c, ok)
					if isPrefix(a, b) {
						continue
					}
					untrue++
					if !ok || !collides(c) || !seal.Is(c) {
						t.Errorf("Cons for %x of %x with %x: %x, %v", a, b, p, c, ok)
					}
				}
			}
		}
	}
	y.enough(t)
	if untrue < 100 {
		t.Errorf("%d proofs of what is not true", untrue)
	}
}

// P8.3: honest proofs yield nothing, where the leaves after a may be any.
func TestWeakConsHonest(t *testing.T) {
	if !weakly(t, few) {
		return
	}
	r := dice()
	for _, s := range someLengths() {
		for range 20 {
			b := someLeaves(r, s.n)
			expectNoCons(t, b[:s.m], b, proofOf(t, b, s.m))
		}
	}
}

// P8.3: leaves of a and of b collide, from left to right, also for all of b.
func TestWeakConsLeaves(t *testing.T) {
	if !weakly(t, many) {
		return
	}
	for _, s := range someLengths() {
		b := numbered(s.n)
		proof, right := proofOf(t, b, s.m), b[:s.m]
		for i := s.m - 1; i >= 0; i-- {
			a := withTwin(t, b[:s.m], i)
			expectCons(t, a, b, proof, twinPair(a, b, i))
			right = withTwin(t, right, i)
			expectCons(t, right, b, proof, twinPair(right, b, i))
		}
	}
}

// computedParts returns the nodes of a that are computed from a proof, from the root downwards.
func computedParts(m, n int) []part {
	if m == n || m == split(m+1) {
		// The first root itself takes the place of the root.
		return nil
	}
	var out []part
	given := proofParts(m, part{0, n}, false)
	for p := (part{0, m}); !slices.Contains(given, p); {
		out = append(out, p)
		_, p = p.halves()
	}
	return out
}

// P8.3: nodes that are computed for a collide with a's own, and come before what collides in the parts.
func TestWeakConsFirstNodes(t *testing.T) {
	if !weakly(t, many) {
		return
	}
	looked := 0
	for _, s := range someLengths() {
		b := numbered(s.n)
		honest, proof := b[:s.m], proofOf(t, b, s.m)
		for _, p := range computedParts(s.m, s.n) {
			looked++
			a := withNode(t, honest, p)
			expectCons(t, a, b, proof, nodePair(honest, a, p))
			if p.from > 0 {
				expectCons(t, withTwin(t, a, 0), b, proof, nodePair(honest, a, p))
			}
		}
	}
	if looked < 50 {
		t.Errorf("%d nodes to look at", looked)
	}
}

// withOther returns a proof with another digest at the index j, which is the root of a right part of b, and the pair of the node that has this part.
func withOther(t *testing.T, b [][]byte, proof []string, j int, right part) ([]string, seal.Clash) {
	t.Helper()
	for _, p := range around(right.from, len(b)) {
		half, other := p.halves()
		if other != right {
			continue
		}
		left, out := rootOf(b, half), slices.Clone(proof)
		out[j] = otherDigest(t, proof[j], func(d string) string { return node(left, d) })
		return out, seal.Clash{A: nodeBytes(left, out[j]), B: nodeOf(b, p)}
	}
	t.Fatalf("%v is no right part", right)
	return nil, seal.Clash{}
}

// P8.3: nodes that are computed for b collide with b's own, from the root downwards, after those of a, and before the parts.
func TestWeakConsSecondNodes(t *testing.T) {
	if !weakly(t, many) {
		return
	}
	looked := 0
	for _, s := range someLengths() {
		b := numbered(s.n)
		honest, proof, parts := b[:s.m], proofOf(t, b, s.m), proofParts(s.m, part{0, s.n}, false)
		a, lower := withTwin(t, honest, 0), proof
		nodes, firsts := computedParts(s.m, s.n), [][][]byte{}
		for _, q := range nodes {
			firsts = append(firsts, withNode(t, honest, q))
		}
		for j, p := range parts {
			if p.from < s.m {
				continue
			}
			looked++
			other, want := withOther(t, b, proof, j, p)
			expectCons(t, honest, b, other, want)
			expectCons(t, a, b, other, want)
			lower, _ = withOther(t, b, lower, j, p)
			expectCons(t, a, b, lower, want)
			for i, q := range nodes {
				expectCons(t, firsts[i], b, lower, nodePair(honest, firsts[i], q))
			}
		}
	}
	if looked < 50 {
		t.Errorf("%d nodes to look at", looked)
	}
}

// written is the pairs that are considered for a proof for the first m of n leaves, written out.
type written struct {
	lengths
	pairs func(a, b [][]byte, p []string) []seal.Clash
}

// fewProofs are proofs with their pairs, in order.
func fewProofs() []written {
	return []written{
		{lengths{1, 1}, func(a, b [][]byte, p []string) []seal.Clash {
			return []seal.Clash{twinPair(a, b, 0)}
		}},
		{lengths{2, 2}, func(a, b [][]byte, p []string) []seal.Clash {
			return []seal.Clash{nodePair(a, b, part{0, 2}), twinPair(a, b, 0), twinPair(a, b, 1)}
		}},
		{lengths{1, 2}, func(a, b [][]byte, p []string) []seal.Clash {
			return []seal.Clash{{A: nodeBytes(reference(a), p[0]), B: nodeOf(b, part{0, 2})}, twinPair(a, b, 0)}
		}},
		{lengths{2, 3}, func(a, b [][]byte, p []string) []seal.Clash {
			return []seal.Clash{
				{A: nodeBytes(reference(a), p[0]), B: nodeOf(b, part{0, 3})},
				nodePair(a, b, part{0, 2}), twinPair(a, b, 0), twinPair(a, b, 1),
			}
		}},
		{lengths{3, 4}, func(a, b [][]byte, p []string) []seal.Clash {
			return []seal.Clash{
				{A: nodeBytes(p[2], p[0]), B: nodeOf(a, part{0, 3})},
				{A: nodeBytes(p[2], node(p[0], p[1])), B: nodeOf(b, part{0, 4})},
				{A: nodeBytes(p[0], p[1]), B: nodeOf(b, part{2, 4})},
				nodePair(a, b, part{0, 2}), twinPair(a, b, 0), twinPair(a, b, 1), twinPair(a, b, 2),
			}
		}},
		{lengths{3, 7}, func(a, b [][]byte, p []string) []seal.Clash {
			return []seal.Clash{
				{A: nodeBytes(p[2], p[0]), B: nodeOf(a, part{0, 3})},
				{A: nodeBytes(node(p[2], node(p[0], p[1])), p[3]), B: nodeOf(b, part{0, 7})},
				{A: nodeBytes(p[2], node(p[0], p[1])), B: nodeOf(b, part{0, 4})},
				{A: nodeBytes(p[0], p[1]), B: nodeOf(b, part{2, 4})},
				nodePair(a, b, part{0, 2}), twinPair(a, b, 0), twinPair(a, b, 1), twinPair(a, b, 2),
			}
		}},
		{lengths{4, 7}, func(a, b [][]byte, p []string) []seal.Clash {
			return []seal.Clash{
				{A: nodeBytes(reference(a), p[0]), B: nodeOf(b, part{0, 7})},
				nodePair(a, b, part{0, 4}),
				nodePair(a, b, part{0, 2}), twinPair(a, b, 0), twinPair(a, b, 1),
				nodePair(a, b, part{2, 4}), twinPair(a, b, 2), twinPair(a, b, 3),
			}
		}},
		{lengths{7, 8}, func(a, b [][]byte, p []string) []seal.Clash {
			return []seal.Clash{
				{A: nodeBytes(p[3], node(p[2], p[0])), B: nodeOf(a, part{0, 7})},
				{A: nodeBytes(p[2], p[0]), B: nodeOf(a, part{4, 7})},
				{A: nodeBytes(p[3], node(p[2], node(p[0], p[1]))), B: nodeOf(b, part{0, 8})},
				{A: nodeBytes(p[2], node(p[0], p[1])), B: nodeOf(b, part{4, 8})},
				{A: nodeBytes(p[0], p[1]), B: nodeOf(b, part{6, 8})},
				nodePair(a, b, part{0, 4}),
				nodePair(a, b, part{0, 2}), twinPair(a, b, 0), twinPair(a, b, 1),
				nodePair(a, b, part{2, 4}), twinPair(a, b, 2), twinPair(a, b, 3),
				nodePair(a, b, part{4, 6}), twinPair(a, b, 4), twinPair(a, b, 5),
				twinPair(a, b, 6),
			}
		}},
	}
}

// P8.3: the first of the pairs that are written out.
func TestWeakConsWritten(t *testing.T) {
	if !weakly(t, few) {
		return
	}
	r, y := dice(), tally{}
	for _, w := range fewProofs() {
		for range 300 {
			b := someLeaves(r, w.n)
			a := changedLeaves(r, b[:w.m])
			for _, p := range proofsFor(t, a, b, someDigests(r, 10)) {
				if accepted(a, b, p) {
					c, ok := clash.Cons(a, b, p)
					y.look(t, "Cons", w.pairs(a, b, p), c, ok)
				}
			}
		}
	}
	y.enough(t)
}

// P8.3: nothing is found for no leaves, or more than b has, though all leaves collide.
func TestWeakConsLengths(t *testing.T) {
	if !weakly(t, many) {
		return
	}
	first := numbered(1)
	b := slices.Repeat(first, 33)
	a := slices.Repeat(withTwin(t, first, 0), 33)
	for _, n := range append(sizes(), 0) {
		for m := range 34 {
			switch {
			case m == 0:
				for _, none := range [][][]byte{nil, {}, a[:0]} {
					for _, p := range [][]string{nil, {}, {reference(b[:n])}} {
						expectNoCons(t, none, b[:n], p)
					}
				}
			case m > n:
				for _, p := range [][]string{nil, {}, proofOf(t, b[:m], n), proofOf(t, b, n), proofOf(t, b[:n], n)} {
					expectNoCons(t, a[:m], b[:n], p)
				}
			default:
				expectCons(t, a[:m], b[:n], proofOf(t, b[:n], m), twinPair(a, b, 0))
			}
		}
	}
}

// P8.3: nothing is found for a proof that is not accepted, though all leaves collide.
func TestWeakConsRefused(t *testing.T) {
	if !weakly(t, many) {
		return
	}
	for _, s := range someLengths() {
		b := numbered(s.n)
		a := b[:s.m]
		for i := range a {
			a = withTwin(t, a, i)
		}
		proof, extra := proofOf(t, b, s.m), reference(b)
		wrong := [][]string{append(slices.Clone(proof), extra), append([]string{extra}, proof...), append(slices.Clone(proof), "")}
		if len(proof) > 0 {
			wrong = append(wrong, nil, proof[1:], proof[:len(proof)-1])
		}
		for j, d := range proof {
			for _, other := range []string{"", d[:31], d + "x", d[1:], d[:31] + string([]byte{d[31] ^ 1})} {
				p := slices.Clone(proof)
				p[j] = other
				wrong = append(wrong, p)
			}
		}
		for _, p := range wrong {
			if len(p) != len(proof) || !accepted(a, b, p) {
				expectNoCons(t, a, b, p)
			}
		}
		expectCons(t, a, b, proof, twinPair(a, b, 0))
		// With another root of one of the lists, the proof is not accepted.
		for _, i := range []int{0, s.m - 1, s.n - 1} {
			other := slices.Clone(b)
			other[i] = []byte("x")
			if !accepted(a, other, proof) {
				expectNoCons(t, a, other, proof)
			}
		}
	}
}
