package tree_test

import (
	"bytes"
	"fmt"
	"math"
	"slices"
	"strings"
	"testing"

	"rubrick/api"
	"rubrick/seal"
	"rubrick/sha"
	"rubrick/tree"
)

// most is the greatest number that Split splits.
const most = 1 << 40

// reference returns the root of digests as the words say it.
func reference(l []string) string {
	switch n := len(l); n {
	case 0:
		return sha.Sum(nil)
	case 1:
		return l[0]
	default:
		k := 1
		for 2*k < n {
			k *= 2
		}
		return sha.Sum([]byte("\x01" + reference(l[:k]) + reference(l[k:])))
	}
}

// list returns n different digests.
func list(n int) []string {
	var out []string
	for i := range n {
		out = append(out, sha.Sum([]byte{byte(i >> 8), byte(i)}))
	}
	return out
}

// sizes are numbers of digests: all small ones, and around powers of two.
func sizes() []int {
	var out []int
	for n := range 35 {
		out = append(out, n)
	}
	return append(out, 63, 64, 65, 100, 127, 128, 129, 255, 256, 257, 1000)
}

// wrong are strings that are no digests, if only by one byte.
func wrong() []string {
	d := sha.Sum(nil)
	return []string{"", "a", d[:31], d + "a", d + d, strings.Repeat("ä", 32)}
}

// P6.1: the greatest power of two less than n.
func TestSplit(t *testing.T) {
	for n, want := range map[int]int{
		2: 1, 3: 2, 4: 2, 5: 4, 6: 4, 7: 4, 8: 4, 9: 8, 15: 8, 16: 8, 17: 16,
		1<<31 - 1: 1 << 30, 1 << 31: 1 << 30, 1<<31 + 1: 1 << 31, 1<<32 + 1: 1 << 32,
		1<<39 - 1: 1 << 38, 1 << 39: 1 << 38, 1<<39 + 1: 1 << 39, most - 1: 1 << 39, most: 1 << 39,
	} {
		if got := tree.Split(n); got != want {
			t.Errorf("Split(%d): %d", n, got)
		}
	}
	for n := 2; n < 3000; n++ {
		k := tree.Split(n)
		if k < 1 || k&(k-1) != 0 || k >= n || 2*k < n {
			t.Errorf("Split(%d): %d", n, k)
		}
	}
	for b := 1; b < 40; b++ {
		if k := tree.Split(1<<b + 1); k != 1<<b {
			t.Errorf("Split(2^%d + 1): %d", b, k)
		}
		if k := tree.Split(1 << (b + 1)); k != 1<<b {
			t.Errorf("Split(2^%d): %d", b+1, k)
		}
	}
}

// P6.1: numbers less than 2 and greater than 2^40 are not split.
func TestSplitNone(t *testing.T) {
	for _, n := range []int{1, 0, -1, -2, -5, -most, math.MinInt, math.MinInt + 1, most + 1, most + 2, 1 << 41, api.MaxNum, math.MaxInt} {
		if got := tree.Split(n); got != 0 {
			t.Errorf("Split(%d): %d", n, got)
		}
	}
}

// P6.1: the digests of leaves, in order, also of none and of leaves without bytes.
func TestLeaves(t *testing.T) {
	for _, l := range [][][]byte{
		nil,
		{},
		{nil},
		{{}, nil, {0}},
		{[]byte("hay"), []byte("wain"), []byte("hay")},
		{bytes.Repeat([]byte{1}, 65), bytes.Repeat([]byte{255}, 2000), {0, 1}},
	} {
		got := tree.Leaves(l)
		var want []string
		for _, b := range l {
			want = append(want, sha.Sum(append([]byte{0}, b...)))
		}
		if !slices.Equal(got, want) {
			t.Errorf("Leaves(%q): %x", l, got)
		}
	}
}

// P6.1: roots that were computed independently.
func TestRootKnown(t *testing.T) {
	l := tree.Leaves([][]byte{nil, {0}, {16}, []byte(" !"), []byte("01"), []byte("@ABC"), []byte("PQRSTUVW"), []byte("`abcdefghijklmno")})
	for n, want := range []string{
		"e3b0c44298fc1c149afbf4c8996fb92427ae41e4649b934ca495991b7852b855",
		"6e340b9cffb37a989ca544e6bb780a2c78901d3fb33738768511a30617afa01d",
		"fac54203e7cc696cf0dfcb42c92a1d9dbaf70ad9e621f4bd8d98662f00e3c125",
		"aeb6bcfe274b70a14fb067a5e5578264db0fa9b51af5e0ba159158f329e06e77",
		"d37ee418976dd95753c1c73862b9398fa2a2cf9b4ff0fdfe8b30cd95209614b7",
		"4e3bbb1f7b478dcfe71fb631631519a3bca12c9aefca1612bfce4c13a86264d4",
		"76e67dadbcdf1e10e1b74ddc608abd2f98dfb16fbce75277b5232a127f2087ef",
		"ddb89be403809e325750d3d263cd78929c2942b7942a34b77e122c9594a74c8c",
		"5dc9da79a70659a9ad559cb701ded9a2ab9d823aad2f4960cfe370eff4604328",
	} {
		if got, e := tree.Root(l[:n]); fmt.Sprintf("%x", got) != want || e != api.OK {
			t.Errorf("Root of %d leaves: %x, %d", n, got, e)
		}
	}
}

// P6.1: the root of no digests, of one, and of more, by the words.
func TestRoot(t *testing.T) {
	for _, none := range [][]string{nil, {}} {
		if got, e := tree.Root(none); got != sha.Sum(nil) || e != api.OK {
			t.Errorf("Root of none: %x, %d", got, e)
		}
	}
	for _, d := range []string{strings.Repeat("\x00", 32), strings.Repeat("\xff", 32), sha.Sum(nil)} {
		if got, e := tree.Root([]string{d}); got != d || e != api.OK {
			t.Errorf("Root of %x: %x, %d", d, got, e)
		}
	}
	for _, n := range sizes() {
		if got, e := tree.Root(list(n)); got != reference(list(n)) || e != api.OK {
			t.Errorf("Root of %d: %x, %d", n, got, e)
		}
	}
}

// P6.1 and R2: an element that is no digest, at any index, has no root.
func TestRootWrong(t *testing.T) {
	for _, n := range []int{1, 2, 3, 7, 8, 9} {
		for i := range n {
			for _, w := range wrong() {
				l := list(n)
				l[i] = w
				if got, e := tree.Root(l); got != "" || e != api.ErrArg {
					t.Errorf("Root of %d with %q at %d: %x, %d", n, w, i, got, e)
				}
			}
		}
	}
}

// P6.1: the root of each part of a list: none of it, one digest, some, all.
func TestRange(t *testing.T) {
	for n := range 20 {
		l := list(n)
		for to := range n + 1 {
			for from := range to + 1 {
				if got, e := tree.Range(l, from, to); got != reference(l[from:to]) || e != api.OK {
					t.Errorf("Range of %d from %d to %d: %x, %d", n, from, to, got, e)
				}
			}
		}
	}
	if got, e := tree.Range(list(1000), 7, 992); got != reference(list(1000)[7:992]) || e != api.OK {
		t.Errorf("Range of 1000: %x, %d", got, e)
	}
	for _, none := range [][]string{nil, {}} {
		if got, e := tree.Range(none, 0, 0); got != sha.Sum(nil) || e != api.OK {
			t.Errorf("Range of none: %x, %d", got, e)
		}
	}
}

// P6.1 and R2: there is no part that begins below 0, ends before it begins, or ends beyond the list.
func TestRangeOutside(t *testing.T) {
	for n := range 5 {
		l := append(list(n), list(9)...)[:n]
		for _, p := range [][2]int{
			{-1, 0}, {-1, n}, {-1, -1}, {-2, -1}, {-1, n + 1},
			{0, -1}, {1, 0}, {n, n - 1}, {n + 1, n}, {n + 1, n + 1}, {n + 1, 0},
			{0, n + 1}, {n, n + 1}, {0, n + 9}, {0, math.MaxInt}, {math.MaxInt, math.MaxInt},
			{math.MinInt, 0}, {math.MinInt, math.MaxInt}, {math.MinInt, math.MinInt}, {math.MaxInt, math.MinInt}, {0, math.MinInt},
		} {
			if got, e := tree.Range(l, p[0], p[1]); got != "" || e != api.ErrArg {
				t.Errorf("Range of %d from %d to %d: %x, %d", n, p[0], p[1], got, e)
			}
		}
	}
}

// P6.1 and R2: what is no digest counts within the part alone.
func TestRangeWrong(t *testing.T) {
	for i := range 9 {
		for _, w := range wrong() {
			l := list(9)
			l[i] = w
			for to := range 10 {
				for from := range to + 1 {
					got, e := tree.Range(l, from, to)
					if within := from <= i && i < to; within && (got != "" || e != api.ErrArg) || !within && (got != reference(l[from:to]) || e != api.OK) {
						t.Errorf("Range from %d to %d with %q at %d: %x, %d", from, to, w, i, got, e)
					}
				}
			}
			if got, e := tree.Range(l, 0, 10); got != "" || e != api.ErrArg {
				t.Errorf("Range beyond the list with %q at %d: %x, %d", w, i, got, e)
			}
		}
	}
}

// P6.5: a root depends only on the digests, not on the memory that holds them.
func TestRootDepends(t *testing.T) {
	for _, n := range sizes() {
		want, _ := tree.Root(list(n))
		wide := append(append(list(3), list(n)...), "wain", "")
		if got, e := tree.Root(wide[3 : 3+n]); got != want || e != api.OK {
			t.Errorf("Root of %d within others: %x, %d", n, got, e)
		}
		if got, e := tree.Range(wide, 3, 3+n); got != want || e != api.OK {
			t.Errorf("Range of %d within others: %x, %d", n, got, e)
		}
		var copies []string
		for _, d := range list(n) {
			copies = append(copies, strings.Clone(d))
		}
		if got, e := tree.Root(copies); got != want || e != api.OK {
			t.Errorf("Root of %d again: %x, %d", n, got, e)
		}
	}
}

// P6.5: the root of n digests is the node of the roots of the two parts.
func TestRootOfParts(t *testing.T) {
	for _, n := range sizes() {
		if n < 2 {
			continue
		}
		l, k := list(n), tree.Split(n)
		left, _ := tree.Range(l, 0, k)
		right, _ := tree.Range(l, k, n)
		want, _ := seal.Node(left, right)
		if got, e := tree.Root(l); got != want || e != api.OK {
			t.Errorf("Root of %d: %x, %d", n, got, e)
		}
	}
}

// P6.5: each digest counts, and so does the order.
func TestRootChanges(t *testing.T) {
	roots := map[string]string{}
	add := func(name string, l []string) {
		r, e := tree.Root(l)
		if other, ok := roots[r]; ok || e != api.OK {
			t.Errorf("Root of %s: %x, %d, as of %s", name, r, e, other)
		}
		roots[r] = name
	}
	for n := range 18 {
		add(fmt.Sprintf("%d", n), list(n))
		for i := range n {
			if i > 0 {
				l := list(n)
				l[i-1], l[i] = l[i], l[i-1]
				add(fmt.Sprintf("%d, %d before its predecessor", n, i), l)
			}
			l := list(n)
			l[i] = l[i][:31] + string([]byte{l[i][31] ^ 1})
			add(fmt.Sprintf("%d, %d with another bit", n, i), l)
		}
	}
}

// R3: arguments are not modified, also not beyond their ends, and results share no memory.
func TestTreeMemory(t *testing.T) {
	for n := range 12 {
		wide := list(12)
		tree.Root(wide[:n])
		tree.Range(wide, n/2, n)
		if !slices.Equal(wide, list(12)) {
			t.Errorf("the digests were modified: %x", wide)
		}
		leaves := [][]byte{[]byte("hay"), nil, []byte("wain")}
		got, other := tree.Leaves(leaves), tree.Leaves(leaves)
		if string(leaves[0]) != "hay" || leaves[1] != nil || string(leaves[2]) != "wain" {
			t.Errorf("the leaves were modified: %q", leaves)
		}
		want := slices.Clone(got)
		clear(other[:cap(other)])
		clear(leaves[0])
		if !slices.Equal(got, want) {
			t.Errorf("Leaves: the result shares memory: %x", got)
		}
	}
}
