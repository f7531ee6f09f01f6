package clash_test

import (
	"bytes"
	"slices"
	"testing"

	"rubrick/clash"
	"rubrick/seal"
)

// expectTwo tells if two lists do not yield the collision want.
func expectTwo(t *testing.T, a, b [][]byte, want seal.Clash) {
	t.Helper()
	c, ok := clash.Two(a, b)
	if !ok || !same(c, want) || !seal.Is(c) {
		t.Errorf("Two of %x and %x: %x, %v in place of %x", a, b, c, ok, want)
	}
}

// P8.2: no collision of SHA-256 is found, neither in equal lists nor in others.
func TestTwoNone(t *testing.T) {
	for _, n := range append(sizes(), 100) {
		l := numbered(n + 1)
		for _, other := range [][][]byte{l[:n], l[1:], slices.Repeat([][]byte{nil}, n)} {
			if c, ok := clash.Two(l[:n], other); !none(c, ok) {
				t.Errorf("Two of %x and %x: %x, %v", l[:n], other, c, ok)
			}
		}
	}
}

// P8.2: the first of all collisions: that of the roots, of the first parts, of the others.
func TestWeakTwoFirst(t *testing.T) {
	if !weakly(t, few) {
		return
	}
	r, y := dice(), tally{}
	for _, n := range sizes() {
		for range 100 {
			a := someLeaves(r, n)
			for _, b := range [][][]byte{a, slices.Clone(a), changedLeaves(r, a), someLeaves(r, n)} {
				c, ok := clash.Two(a, b)
				y.look(t, "Two", twoPairs(a, b), c, ok)
			}
		}
	}
	y.enough(t)
}

// P8.2: leaves collide, from left to right.
func TestWeakTwoLeaves(t *testing.T) {
	if !weakly(t, many) {
		return
	}
	for _, n := range sizes() {
		a := numbered(n)
		right := a
		for i := n - 1; i >= 0; i-- {
			b := withTwin(t, a, i)
			expectTwo(t, a, b, twinPair(a, b, i))
			expectTwo(t, b, a, twinPair(b, a, i))
			right = withTwin(t, right, i)
			expectTwo(t, a, right, twinPair(a, right, i))
		}
	}
}

// P8.2: a node collides, which comes before what is in its parts and after what is to its left.
func TestWeakTwoNodes(t *testing.T) {
	if !weakly(t, many) {
		return
	}
	for _, n := range []int{2, 3, 4, 5, 7, 8, 9, 16, 17} {
		a := numbered(n)
		for _, i := range []int{0, n / 2, n - 2} {
			for _, p := range around(i, n) {
				if p.from != i {
					continue
				}
				b := withNode(t, a, p)
				want := nodePair(a, b, p)
				expectTwo(t, a, b, want)
				expectTwo(t, a, withTwin(t, b, p.to-1), want)
				if p.to < n {
					expectTwo(t, a, withTwin(t, b, n-1), want)
				}
				if p.from > 0 {
					c := withTwin(t, b, 0)
					expectTwo(t, a, c, twinPair(a, c, 0))
				}
			}
		}
	}
}

// P8.2: what collides is found below roots that differ.
func TestWeakTwoOtherRoots(t *testing.T) {
	if !weakly(t, many) {
		return
	}
	a := numbered(5)
	b := withTwin(t, a, 2)
	for _, i := range []int{0, 1, 3, 4} {
		c := slices.Clone(b)
		c[i] = []byte("x")
		if len(collisions(twoPairs(a, c))) == 1 {
			expectTwo(t, a, c, twinPair(a, c, 2))
		} else {
			t.Errorf("another collision beside that of 2, with another %d", i)
		}
	}
}

// P8.5: different lists with the same root and number of leaves yield a collision.
func TestWeakTwoSameRoot(t *testing.T) {
	if !weakly(t, few) {
		return
	}
	r, found := dice(), 0
	for _, n := range sizes() {
		for range 200 {
			a, b := someLeaves(r, n), someLeaves(r, n)
			if reference(a) != reference(b) || slices.EqualFunc(a, b, bytes.Equal) {
				continue
			}
			found++
			if c, ok := clash.Two(a, b); !ok || !collides(c) || !seal.Is(c) {
				t.Errorf("Two of %x and %x: %x, %v", a, b, c, ok)
			}
		}
	}
	if found < 100 {
		t.Errorf("%d pairs of lists to look at", found)
	}
}

// P8.2: nothing is found in lists of unlike lengths, nor in those of no leaves, though all leaves collide.
func TestWeakTwoLengths(t *testing.T) {
	if !weakly(t, many) {
		return
	}
	first := numbered(1)
	a := slices.Repeat(first, 33)
	b := slices.Repeat(withTwin(t, first, 0), 33)
	for _, n := range append(sizes(), 0) {
		for _, m := range append(sizes(), 0) {
			c, ok := clash.Two(a[:n], b[:m])
			switch {
			case n != m || n == 0:
				if !none(c, ok) {
					t.Errorf("Two of %d and %d leaves: %x, %v", n, m, c, ok)
				}
			case !ok || !same(c, twinPair(a, b, 0)):
				t.Errorf("Two of %d leaves: %x, %v", n, c, ok)
			}
		}
	}
	for _, l := range [][][]byte{nil, {}} {
		for _, other := range [][][]byte{nil, {}, a[:1]} {
			if c, ok := clash.Two(l, other); !none(c, ok) {
				t.Errorf("Two of none and %x: %x, %v", other, c, ok)
			}
			if c, ok := clash.Two(other, l); !none(c, ok) {
				t.Errorf("Two of %x and none: %x, %v", other, c, ok)
			}
		}
	}
}

// marked is a function for two byte strings, and the byte with which the bytes of their seals begin.
type marked struct {
	name  string
	find  func(a, b []byte) (seal.Clash, bool)
	first byte
}

// kinds are the functions for two byte strings.
func kinds() []marked {
	return []marked{{"Posts", clash.Posts, 2}, {"Head", clash.Head, 3}}
}

// P8.2: no collision of SHA-256 is found.
func TestPostsHeadNone(t *testing.T) {
	l := [][]byte{nil, {}, {0}, {2}, {3}, {0, 0}, []byte("hay"), []byte("wain"), bytes.Repeat([]byte("a"), 1000)}
	for _, k := range kinds() {
		for _, a := range l {
			for _, b := range l {
				if c, ok := k.find(a, b); !none(c, ok) {
					t.Errorf("%s of %x and %x: %x, %v", k.name, a, b, c, ok)
				}
			}
		}
	}
}

// P8.2: the bytes of the seals of posting lists, and of heads, are a collision or not.
func TestWeakPostsHead(t *testing.T) {
	if !weakly(t, few) {
		return
	}
	r := dice()
	l := append(someLeaves(r, 40), nil, []byte{}, []byte{0}, bytes.Repeat([]byte("a"), 1000))
	for _, k := range kinds() {
		y := tally{}
		for _, a := range l {
			for _, b := range l {
				pair := seal.Clash{A: append([]byte{k.first}, a...), B: append([]byte{k.first}, b...)}
				c, ok := k.find(a, b)
				y.look(t, k.name, []seal.Clash{pair}, c, ok)
			}
		}
		if y.found < 100 || y.nothing < 100 {
			t.Errorf("%s: %d with a collision, %d with none", k.name, y.found, y.nothing)
		}
	}
}
