package cons_test

import (
	"encoding/hex"
	"math"
	"slices"
	"strings"
	"testing"

	"rubrick/api"
	"rubrick/cons"
	"rubrick/sha"
	"rubrick/tree"
)

// split returns the greatest power of two less than n.
func split(n int) int {
	k := 1
	for 2*k < n {
		k *= 2
	}
	return k
}

// node returns the seal of a node, also of strings that are no digests.
func node(l, r string) string {
	return sha.Sum([]byte("\x01" + l + r))
}

// reference returns the root of digests as the words say it.
func reference(l []string) string {
	if len(l) == 0 {
		return sha.Sum(nil)
	}
	if len(l) == 1 {
		return l[0]
	}
	k := split(len(l))
	return node(reference(l[:k]), reference(l[k:]))
}

// referenceProof returns the proof for the first m of digests as the words say it.
func referenceProof(l []string, m int, partial bool) []string {
	n := len(l)
	if partial && m == n {
		return []string{reference(l)}
	}
	if m == 0 || m == n {
		return nil
	}
	k := split(n)
	if m <= k {
		return append(referenceProof(l[:k], m, partial), reference(l[k:]))
	}
	return append(referenceProof(l[k:], m-k, true), reference(l[:k]))
}

// list returns n different digests.
func list(n int) []string {
	var out []string
	for i := range n {
		out = append(out, sha.Sum([]byte{byte(i >> 8), byte(i)}))
	}
	return out
}

// wrong are strings that are no digests, if only by one byte.
func wrong() []string {
	d := sha.Sum(nil)
	return []string{"", "a", d[:31], d + "a", d + d, strings.Repeat("ä", 32)}
}

// P7.1: proofs that were computed independently.
func TestProveKnown(t *testing.T) {
	l := tree.Leaves([][]byte{nil, {0}, {16}, []byte(" !"), []byte("01"), []byte("@ABC"), []byte("PQRSTUVW"), []byte("`abcdefghijklmno")})
	for _, c := range []struct {
		m, n int
		want []string
	}{
		{1, 2, []string{
			"96a296d224f285c67bee93c30f8a309157f0daa35dc5b87e410b78630a09cfc7",
		}},
		{2, 5, []string{
			"5f083f0a1a33ca076a95279832580db3e0ef4584bdff1f54c8a360f50de3031e",
			"bc1a0643b12e4d2d7c77918f44e0f4f79a838b6cf9ec5b5c283e1f4d88599e6b",
		}},
		{3, 7, []string{
			"0298d122906dcfc10892cb53a73992fc5b9f493ea4c9badb27b791b4127a7fe7",
			"07506a85fd9dd2f120eb694f86011e5bb4662e5c415a62917033d4a9624487e7",
			"fac54203e7cc696cf0dfcb42c92a1d9dbaf70ad9e621f4bd8d98662f00e3c125",
			"837dbb152e9b079010717e84e865da4ebc0fa198a806d59d31bf15accef22d0e",
		}},
		{4, 7, []string{
			"837dbb152e9b079010717e84e865da4ebc0fa198a806d59d31bf15accef22d0e",
		}},
		{1, 8, []string{
			"96a296d224f285c67bee93c30f8a309157f0daa35dc5b87e410b78630a09cfc7",
			"5f083f0a1a33ca076a95279832580db3e0ef4584bdff1f54c8a360f50de3031e",
			"6b47aaf29ee3c2af9af889bc1fb9254dabd31177f16232dd6aab035ca39bf6e4",
		}},
		{6, 8, []string{
			"0ebc5d3437fbe2db158b9f126a1d118e308181031d0a949f8dededebc558ef6a",
			"ca854ea128ed050b41b35ffc1b87b8eb2bde461e9e3b5596ece6b9d5975a0ae0",
			"d37ee418976dd95753c1c73862b9398fa2a2cf9b4ff0fdfe8b30cd95209614b7",
		}},
		{7, 8, []string{
			"b08693ec2e721597130641e8211e7eedccb4c26413963eee6c1e2ed16ffb1a5f",
			"46f6ffadd3d06a09ff3c5860d2755c8b9819db7df44251788c7d8e3180de8eb1",
			"0ebc5d3437fbe2db158b9f126a1d118e308181031d0a949f8dededebc558ef6a",
			"d37ee418976dd95753c1c73862b9398fa2a2cf9b4ff0fdfe8b30cd95209614b7",
		}},
	} {
		got, e := cons.Prove(l[:c.n], c.m)
		var digits []string
		for _, d := range got {
			digits = append(digits, hex.EncodeToString([]byte(d)))
		}
		if !slices.Equal(digits, c.want) || e != api.OK {
			t.Errorf("Prove for %d of %d: %q, %d", c.m, c.n, digits, e)
		}
	}
}

// P7.1: the proof for the first m of few leaves, written out.
func TestProveFew(t *testing.T) {
	l := list(7)
	part := func(from, to int) string { return reference(l[from:to]) }
	for _, c := range []struct {
		m, n int
		want []string
	}{
		{0, 0, nil}, {0, 1, nil}, {1, 1, nil}, {0, 2, nil}, {2, 2, nil}, {0, 7, nil}, {7, 7, nil}, {3, 3, nil},
		{1, 2, []string{l[1]}},
		{1, 3, []string{l[1], l[2]}},
		{2, 3, []string{l[2]}},
		{1, 4, []string{l[1], part(2, 4)}},
		{2, 4, []string{part(2, 4)}},
		{3, 4, []string{l[2], l[3], part(0, 2)}},
		{4, 5, []string{l[4]}},
		{5, 6, []string{l[4], l[5], part(0, 4)}},
		{3, 7, []string{l[2], l[3], part(0, 2), part(4, 7)}},
		{4, 7, []string{part(4, 7)}},
		{5, 7, []string{l[4], l[5], l[6], part(0, 4)}},
		{6, 7, []string{part(4, 6), l[6], part(0, 4)}},
	} {
		if got, e := cons.Prove(l[:c.n], c.m); !slices.Equal(got, c.want) || e != api.OK {
			t.Errorf("Prove for %d of %d: %x, %d", c.m, c.n, got, e)
		}
	}
}

// P7.1: the proof for each number of leaves, by the words.
func TestProve(t *testing.T) {
	for n := range 70 {
		l := list(n)
		for m := range n + 1 {
			if got, e := cons.Prove(l, m); !slices.Equal(got, referenceProof(l, m, false)) || e != api.OK {
				t.Errorf("Prove for %d of %d: %x, %d", m, n, got, e)
			}
		}
	}
	for _, n := range []int{127, 128, 129, 255, 256, 257, 1000} {
		l := list(n)
		for _, m := range []int{0, 1, 2, 3, 63, 64, 65, n / 2, n/2 + 1, n - 2, n - 1, n} {
			if got, e := cons.Prove(l, m); !slices.Equal(got, referenceProof(l, m, false)) || e != api.OK {
				t.Errorf("Prove for %d of %d: %x, %d", m, n, got, e)
			}
		}
	}
	if got, e := cons.Prove(nil, 0); len(got) != 0 || e != api.OK {
		t.Errorf("Prove for none of none: %x, %d", got, e)
	}
}

// P7.1 and R2: less than no leaves, and more than there are.
func TestProveOutside(t *testing.T) {
	for n := range 10 {
		l := append(list(n), list(20)...)[:n]
		for _, m := range []int{-1, -2, -n - 1, math.MinInt, n + 1, n + 2, 2*n + 1, 1 << 40, math.MaxInt} {
			if got, e := cons.Prove(l, m); len(got) != 0 || e != api.ErrArg {
				t.Errorf("Prove for %d of %d: %x, %d", m, n, got, e)
			}
		}
	}
	for _, m := range []int{-1, 1} {
		if got, e := cons.Prove(nil, m); len(got) != 0 || e != api.ErrArg {
			t.Errorf("Prove for %d of none: %x, %d", m, got, e)
		}
	}
}

// P7.1 and R2: an element that is no digest, also where nothing is to be proved, and together with a wrong number.
func TestProveWrong(t *testing.T) {
	for _, n := range []int{1, 2, 3, 7, 8, 9} {
		for at := range n {
			for _, w := range wrong() {
				l := list(n)
				l[at] = w
				for m := -1; m <= n+1; m++ {
					if got, e := cons.Prove(l, m); len(got) != 0 || e != api.ErrArg {
						t.Errorf("Prove for %d of %d with %q at %d: %x, %d", m, n, w, at, got, e)
					}
				}
			}
		}
	}
}

// R3: the digests are not modified, also not beyond their end, and a proof shares no memory.
func TestProveMemory(t *testing.T) {
	for n := range 20 {
		for m := range n + 1 {
			wide := append(list(n), "hay", "wain")
			got, _ := cons.Prove(wide[:n], m)
			other, _ := cons.Prove(wide[:n], m)
			if !slices.Equal(wide, append(list(n), "hay", "wain")) {
				t.Fatalf("Prove for %d of %d: the digests were modified: %x", m, n, wide)
			}
			clear(wide)
			clear(other[:cap(other)])
			if !slices.Equal(got, referenceProof(list(n), m, false)) {
				t.Errorf("Prove for %d of %d: the result shares memory", m, n)
			}
		}
	}
}
