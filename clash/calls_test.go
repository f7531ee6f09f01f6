package clash_test

import (
	"bytes"
	"math"
	"math/rand/v2"
	"slices"
	"strings"
	"testing"

	"rubrick/clash"
	"rubrick/seal"
)

// wideLeaves returns a copy of l in which all memory is new, with bytes beyond the end of each leaf, and leaves beyond the end of the list.
func wideLeaves(l [][]byte) [][]byte {
	out := make([][]byte, 0, len(l)+2)
	for _, b := range l {
		out = append(out, append(slices.Clone(b), 7, 7, 7)[:len(b)])
	}
	return append(out, []byte("hay"), []byte("wain"))[:len(l)]
}

// whole returns a text of leaves, with what lies beyond the ends.
func whole(l [][]byte) string {
	var out strings.Builder
	for _, b := range l[:cap(l)] {
		out.Write(b[:cap(b)])
		out.WriteByte('|')
	}
	return out.String()
}

// cleared sets all bytes of leaves to 0.
func cleared(l [][]byte) {
	for _, b := range l[:cap(l)] {
		clear(b[:cap(b)])
	}
}

// expectOwn tells if a call modifies its arguments, or if its result shares memory with them or with itself.
func expectOwn(t *testing.T, name string, a, b [][]byte, call func() (seal.Clash, bool)) {
	t.Helper()
	one, two := whole(a), whole(b)
	c, ok := call()
	d, again := call()
	if whole(a) != one || whole(b) != two {
		t.Errorf("%s modifies its arguments", name)
	}
	if !ok || !again || !same(c, d) {
		t.Fatalf("%s: %x, %v and then %x, %v", name, c, ok, d, again)
	}
	want := seal.Clash{A: bytes.Clone(c.A), B: bytes.Clone(c.B)}
	cleared(a)
	cleared(b)
	clear(d.A[:cap(d.A)])
	clear(d.B[:cap(d.B)])
	if !same(c, want) {
		t.Errorf("the result of %s shares memory", name)
	}
	clear(c.A[:cap(c.A)])
	if !bytes.Equal(c.B, want.B) {
		t.Errorf("A and B of %s share memory", name)
	}
}

// R3: arguments are not modified, and a collision is new memory.
func TestWeakMemory(t *testing.T) {
	if !weakly(t, many) {
		return
	}
	b := numbered(7)
	for _, m := range []int{1, 2, 3, 4, 7} {
		a := withTwin(t, b[:m], m-1)
		proof := append(proofOf(t, b, m), "hay")
		path := append(pathOf(t, b, m-1), "hay")
		before := slices.Concat(proof, path)
		one, two := wideLeaves(a), wideLeaves(b)
		expectOwn(t, "Cons", one, two, func() (seal.Clash, bool) { return clash.Cons(one, two, proof[:len(proof)-1]) })
		other, three := wideLeaves(a), wideLeaves(b[:m])
		expectOwn(t, "Two", other, three, func() (seal.Clash, bool) { return clash.Two(other, three) })
		leaves, leaf := wideLeaves(b), wideLeaves(a[m-1:])
		expectOwn(t, "Leaf", leaves, leaf, func() (seal.Clash, bool) {
			return clash.Leaf(leaves, m-1, leaf[0], path[:len(path)-1])
		})
		if !slices.Equal(slices.Concat(proof, path), before) {
			t.Errorf("a proof or a path is modified")
		}
	}
	for _, k := range kinds() {
		for i := range 1 << 16 {
			one, two := wideLeaves([][]byte{{1}}), wideLeaves([][]byte{{byte(i >> 8), byte(i)}})
			if collides(seal.Clash{A: append([]byte{k.first}, one[0]...), B: append([]byte{k.first}, two[0]...)}) {
				expectOwn(t, k.name, one, two, func() (seal.Clash, bool) { return k.find(one[0], two[0]) })
				break
			}
		}
	}
}

// anyString returns a string, which often is a digest.
func anyString(r *rand.Rand) string {
	if r.IntN(4) > 0 {
		return someDigests(r, 1)[0]
	}
	return strings.Repeat("x", []int{0, 1, 31, 33, 64}[r.IntN(5)])
}

// anyStrings returns some strings, or none.
func anyStrings(r *rand.Rand) []string {
	var out []string
	for range r.IntN(6) {
		out = append(out, anyString(r))
	}
	return out
}

// R1: no call panics, whatever its arguments are, and what it finds is a collision.
func TestWeakCalls(t *testing.T) {
	if !weakly(t, few) {
		return
	}
	r := dice()
	indices := []int{math.MinInt, -1, 0, 1, 2, 3, 4, 5, 7, 8, 1 << 40, math.MaxInt}
	for range 20000 {
		a, b := someLeaves(r, r.IntN(9)), someLeaves(r, r.IntN(9))
		p, i := anyStrings(r), indices[r.IntN(len(indices))]
		for _, find := range []func() (seal.Clash, bool){
			func() (seal.Clash, bool) { return clash.Leaf(a, i, someLeaf(r), p) },
			func() (seal.Clash, bool) { return clash.Two(a, b) },
			func() (seal.Clash, bool) { return clash.Cons(a, b, p) },
		} {
			c, ok := find()
			if !none(c, ok) && !(ok && collides(c) && seal.Is(c)) {
				t.Errorf("%x, %x, %d, %x: %x, %v", a, b, i, p, c, ok)
			}
		}
	}
}

// R1: nil and empty arguments.
func TestEmpty(t *testing.T) {
	for _, l := range [][][]byte{nil, {}, {nil}, {{}}, {nil, nil}, {nil, {}, nil}} {
		for _, p := range [][]string{nil, {}, {""}, {"", ""}} {
			for _, i := range []int{math.MinInt, -1, 0, 1, 2, 3, math.MaxInt} {
				if c, ok := clash.Leaf(l, i, nil, p); !none(c, ok) {
					t.Errorf("Leaf %d of %d with %q: %x, %v", i, len(l), p, c, ok)
				}
			}
			for _, o := range [][][]byte{nil, {}, {nil}, {nil, {}}} {
				if c, ok := clash.Cons(l, o, p); !none(c, ok) {
					t.Errorf("Cons for %d of %d with %q: %x, %v", len(l), len(o), p, c, ok)
				}
				if c, ok := clash.Two(l, o); !none(c, ok) {
					t.Errorf("Two of %d and %d leaves: %x, %v", len(l), len(o), c, ok)
				}
			}
		}
	}
}
