package tree_test

import (
	"math"
	"slices"
	"strings"
	"testing"

	"rubrick/api"
	"rubrick/sha"
	"rubrick/tree"
)

// referencePath returns the path of an index as the words say it.
func referencePath(l []string, i int) []string {
	if len(l) == 1 {
		return nil
	}
	k := 1
	for 2*k < len(l) {
		k *= 2
	}
	if i < k {
		return append(referencePath(l[:k], i), reference(l[k:]))
	}
	return append(referencePath(l[k:], i-k), reference(l[:k]))
}

// step is a node on the way of a path to the root.
type step struct{ left, right string }

// root returns the seal of a step's node.
func (s step) root() string {
	return sha.Sum([]byte("\x01" + s.left + s.right))
}

// steps returns the nodes through which a path leads from a digest at the index i of n, from the leaf upwards, as the words say it.
func steps(leaf string, i, n int, path []string) []step {
	if n == 1 {
		return nil
	}
	k := 1
	for 2*k < n {
		k *= 2
	}
	last := len(path) - 1
	left := i < k
	if left {
		n = k
	} else {
		i, n = i-k, n-k
	}
	out := steps(leaf, i, n, path[:last])
	d := top(leaf, out)
	if left {
		return append(out, step{d, path[last]})
	}
	return append(out, step{path[last], d})
}

// top returns the digest to which steps from a digest lead.
func top(leaf string, l []step) string {
	if len(l) == 0 {
		return leaf
	}
	return l[len(l)-1].root()
}

// pathLength returns how many digests a path of i in n has.
func pathLength(i, n int) int {
	length := 0
	for n > 1 {
		k := 1
		for 2*k < n {
			k *= 2
		}
		if i < k {
			n = k
		} else {
			i, n = i-k, n-k
		}
		length++
	}
	return length
}

// place is an index of a list of n digests.
type place struct{ i, n int }

// places are indices of small lists, of lists around powers of two, and of the longest ones.
func places() []place {
	var out []place
	for n := range 35 {
		for i := range n {
			out = append(out, place{i, n})
		}
	}
	for _, n := range []int{63, 64, 65, 1000, 1<<31 - 1, 1 << 31, 1<<32 + 1, 1<<39 - 1, 1 << 39, 1<<39 + 1, most - 1, most} {
		for _, i := range []int{0, 1, 2, n / 3, n/2 - 1, n / 2, n/2 + 1, n - 2, n - 1} {
			out = append(out, place{i, n})
		}
	}
	return out
}

// P6.2: the path of each index, from the leaf upwards.
func TestPath(t *testing.T) {
	for _, n := range sizes() {
		l := list(n)
		for i := range n {
			if n > 40 && i > 2 && i < n-3 && i%37 != 0 {
				continue
			}
			if got, e := tree.Path(l, i); !slices.Equal(got, referencePath(l, i)) || e != api.OK {
				t.Errorf("Path of %d in %d: %x, %d", i, n, got, e)
			}
		}
	}
}

// P6.2: the path in one digest, in two, and in three.
func TestPathFew(t *testing.T) {
	l := list(3)
	both, _ := tree.Root(l[:2])
	for _, c := range []struct {
		n, i int
		want []string
	}{
		{1, 0, nil},
		{2, 0, []string{l[1]}},
		{2, 1, []string{l[0]}},
		{3, 0, []string{l[1], l[2]}},
		{3, 1, []string{l[0], l[2]}},
		{3, 2, []string{both}},
	} {
		if got, e := tree.Path(l[:c.n], c.i); !slices.Equal(got, c.want) || e != api.OK {
			t.Errorf("Path of %d in %d: %x, %d", c.i, c.n, got, e)
		}
	}
}

// P6.2 and R2: there is no path of an index outside the list.
func TestPathOutside(t *testing.T) {
	for n := range 10 {
		l := append(list(n), list(9)...)[:n]
		for _, i := range []int{-1, -2, -n - 1, n, n + 1, 2*n + 1, 1 << 40, math.MaxInt, math.MinInt} {
			if got, e := tree.Path(l, i); len(got) != 0 || e != api.ErrArg {
				t.Errorf("Path of %d in %d: %x, %d", i, n, got, e)
			}
		}
	}
	if got, e := tree.Path(nil, 0); len(got) != 0 || e != api.ErrArg {
		t.Errorf("Path of 0 in none: %x, %d", got, e)
	}
}

// P6.2 and R2: there is no path in a list with an element that is no digest, not even its own.
func TestPathWrong(t *testing.T) {
	for _, n := range []int{1, 2, 3, 8, 9} {
		for at := range n {
			for _, w := range wrong() {
				l := list(n)
				l[at] = w
				for i := -1; i <= n; i++ {
					if got, e := tree.Path(l, i); len(got) != 0 || e != api.ErrArg {
						t.Errorf("Path of %d in %d with %q at %d: %x, %d", i, n, w, at, got, e)
					}
				}
			}
		}
	}
}

// P6.4: a path leads to the root.
func TestClimbPath(t *testing.T) {
	for _, n := range sizes() {
		l := list(n)
		want, _ := tree.Root(l)
		for i := range n {
			if n > 40 && i > 2 && i < n-3 && i%37 != 0 {
				continue
			}
			p, _ := tree.Path(l, i)
			if got, e := tree.Climb(l[i], i, n, p); got != want || e != api.OK {
				t.Errorf("Climb from %d in %d: %x, %d", i, n, got, e)
			}
		}
	}
}

// P6.3: any digests as a path lead to the root that has them on the sides that the index says.
func TestClimb(t *testing.T) {
	digests := list(41)
	for _, c := range places() {
		p := digests[:pathLength(c.i, c.n)]
		want := top(digests[40], steps(digests[40], c.i, c.n, p))
		if got, e := tree.Climb(digests[40], c.i, c.n, p); got != want || e != api.OK {
			t.Errorf("Climb from %d in %d: %x, %d", c.i, c.n, got, e)
		}
	}
	for _, d := range []string{strings.Repeat("\x00", 32), strings.Repeat("\xff", 32)} {
		for _, none := range [][]string{nil, {}} {
			if got, e := tree.Climb(d, 0, 1, none); got != d || e != api.OK {
				t.Errorf("Climb from %x alone: %x, %d", d, got, e)
			}
		}
	}
}

// P6.3: the longest path has 40 digests.
func TestClimbLongest(t *testing.T) {
	digests := list(41)
	for _, i := range []int{0, 1, 1 << 39, most - 1} {
		if got, e := tree.Climb(digests[40], i, most, digests[:40]); got == "" || e != api.OK {
			t.Errorf("Climb from %d: %x, %d", i, got, e)
		}
	}
	if got, e := tree.Climb(digests[40], most-1, most-1, nil); got != "" || e != api.ErrArg {
		t.Errorf("Climb from beyond the list: %x, %d", got, e)
	}
	if got, e := tree.Climb(digests[40], 1<<39, 1<<39+1, digests[:1]); got != reference([]string{digests[0], digests[40]}) || e != api.OK {
		t.Errorf("Climb from the last of 2^39 + 1: %x, %d", got, e)
	}
}

// P6.3: paths that are too short or too long.
func TestClimbLength(t *testing.T) {
	digests := list(45)
	for _, c := range places() {
		for length := range len(digests) {
			if length == pathLength(c.i, c.n) {
				continue
			}
			if got, e := tree.Climb(digests[44], c.i, c.n, digests[:length]); got != "" || e != api.ErrProof {
				t.Errorf("Climb from %d in %d by %d: %x, %d", c.i, c.n, length, got, e)
			}
		}
	}
}

// P6.3: paths with an element that is no digest, at any index.
func TestClimbWrong(t *testing.T) {
	leaf := sha.Sum(nil)
	for _, c := range places() {
		length := pathLength(c.i, c.n)
		for at := range length {
			for _, w := range wrong() {
				p := list(length)
				p[at] = w
				if got, e := tree.Climb(leaf, c.i, c.n, p); got != "" || e != api.ErrProof {
					t.Errorf("Climb from %d in %d with %q at %d: %x, %d", c.i, c.n, w, at, got, e)
				}
			}
		}
	}
}

// P6.3 and R2: a leaf that is no digest, a number, or an index that may not be, whatever the path is.
func TestClimbArguments(t *testing.T) {
	leaf := sha.Sum(nil)
	type call struct {
		leaf string
		place
	}
	var l []call
	for _, p := range []place{
		{0, 0}, {-1, 0}, {1, 0}, {0, -1}, {-1, -1}, {-2, -1}, {0, math.MinInt}, {math.MinInt, math.MinInt}, {math.MaxInt, math.MinInt},
		{0, most + 1}, {5, most + 1}, {most, most + 1}, {most + 1, most + 1}, {0, 1 << 41}, {0, api.MaxNum}, {0, math.MaxInt}, {math.MaxInt - 1, math.MaxInt},
		{-1, 1}, {1, 1}, {2, 1}, {-1, 2}, {2, 2}, {-1, 7}, {7, 7}, {8, 7}, {-8, 7}, {math.MaxInt, 7}, {math.MinInt, 7},
		{-1, most}, {most, most}, {most + 1, most}, {math.MinInt, most}, {math.MaxInt, most},
	} {
		l = append(l, call{leaf, p}, call{"", p}, call{leaf + "a", p})
	}
	for _, w := range wrong() {
		l = append(l, call{w, place{0, 1}}, call{w, place{1, 2}}, call{w, place{6, 7}}, call{w, place{7, 7}}, call{w, place{0, 0}}, call{w, place{0, most}})
	}
	for _, c := range l {
		for _, p := range [][]string{nil, list(1), list(3), list(40), list(41), {""}, {"a", leaf}, {leaf, leaf[:31]}, wrong()} {
			if got, e := tree.Climb(c.leaf, c.i, c.n, p); got != "" || e != api.ErrArg {
				t.Errorf("Climb of %d bytes from %d in %d by %d: %x, %d", len(c.leaf), c.i, c.n, len(p), got, e)
			}
		}
	}
}

// P6.5: with the same path, another digest, index or element leads to another root.
func TestClimbDepends(t *testing.T) {
	digests := list(41)
	for _, c := range places() {
		p := digests[:pathLength(c.i, c.n)]
		root, _ := tree.Climb(digests[40], c.i, c.n, p)
		if got, e := tree.Climb(digests[39][:31]+"a", c.i, c.n, p); got == root || e != api.OK {
			t.Errorf("Climb from another digest at %d in %d: %x, %d", c.i, c.n, got, e)
		}
		for j := range p {
			other := slices.Clone(p)
			other[j] = other[j][:31] + "a"
			if got, e := tree.Climb(digests[40], c.i, c.n, other); got == root || e != api.OK {
				t.Errorf("Climb from %d in %d by another %d: %x, %d", c.i, c.n, j, got, e)
			}
		}
		if sibling := c.i ^ 1; sibling < c.n {
			if got, e := tree.Climb(digests[40], sibling, c.n, p); got == root || e != api.OK {
				t.Errorf("Climb from %d in place of %d in %d: %x, %d", sibling, c.i, c.n, got, e)
			}
		}
	}
}

// R3: the arguments are not modified, also not beyond their ends, and a path shares no memory.
func TestPathMemory(t *testing.T) {
	for n := 1; n < 20; n++ {
		for i := range n {
			wide := append(list(n), "hay", "wain")
			got, _ := tree.Path(wide[:n], i)
			other, _ := tree.Path(wide[:n], i)
			tree.Climb(wide[0], i, n, got)
			if !slices.Equal(wide, append(list(n), "hay", "wain")) {
				t.Fatalf("Path of %d in %d: the argument was modified: %x", i, n, wide)
			}
			clear(wide)
			clear(other[:cap(other)])
			if !slices.Equal(got, referencePath(list(n), i)) {
				t.Errorf("Path of %d in %d: the result shares memory", i, n)
			}
		}
	}
	wide := list(45)
	tree.Climb(wide[44], 5, most, wide[:40])
	if !slices.Equal(wide, list(45)) {
		t.Errorf("Climb: the path was modified: %x", wide)
	}
}
