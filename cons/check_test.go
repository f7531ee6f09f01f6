package cons_test

import (
	"math"
	"slices"
	"strings"
	"testing"

	"rubrick/api"
	"rubrick/cons"
	"rubrick/sha"
)

// most is the greatest number of leaves for which Check accepts proofs.
const most = 1 << 40

// roots are a first and a second root.
type roots struct{ one, two string }

// stages returns what is recomputed from a proof as the words say it, from the innermost lists outwards, and how many digests the innermost ones take.
// The proof needs to be of the right length, and m to be neither 0 nor n, unless it is partial.
func stages(m, n int, one string, proof []string, partial bool) ([]roots, int) {
	if m == n {
		if partial {
			return []roots{{proof[0], proof[0]}}, 1
		}
		return []roots{{one, one}}, 0
	}
	k, last := split(n), len(proof)-1
	if m <= k {
		out, taken := stages(m, k, one, proof[:last], partial)
		r := out[len(out)-1]
		return append(out, roots{r.one, node(r.two, proof[last])}), taken
	}
	out, taken := stages(m-k, n-k, one, proof[:last], true)
	r := out[len(out)-1]
	return append(out, roots{node(proof[last], r.one), node(proof[last], r.two)}), taken
}

// rebuilt returns both roots that are recomputed from a proof of the right length.
func rebuilt(m, n int, one string, proof []string) roots {
	l, _ := stages(m, n, one, proof, false)
	return l[len(l)-1]
}

// proofLength returns how many digests a proof has.
func proofLength(m, n int, partial bool) int {
	switch k := split(n); {
	case partial && m == n:
		return 1
	case m == 0 || m == n:
		return 0
	case m <= k:
		return proofLength(m, k, partial) + 1
	default:
		return proofLength(m-k, n-k, true) + 1
	}
}

// accepted reports whether a proof of digests is accepted as the words say it.
func accepted(m, n int, r roots, proof []string) bool {
	switch {
	case m == 0:
		return len(proof) == 0 && r.one == sha.Sum(nil)
	case m == n:
		return len(proof) == 0 && r.one == r.two
	default:
		return len(proof) == proofLength(m, n, false) && rebuilt(m, n, r.one, proof) == r
	}
}

// pair is a number of leaves of n, neither none nor all.
type pair struct{ m, n int }

// pairs are such numbers: all of few leaves, and some of numbers around powers of two, up to the greatest.
func pairs() []pair {
	var out []pair
	for n := range 35 {
		for m := 1; m < n; m++ {
			out = append(out, pair{m, n})
		}
	}
	for _, n := range []int{63, 64, 65, 1000, 1<<31 - 1, 1 << 31, 1<<32 + 1, 1<<39 - 1, 1 << 39, 1<<39 + 1, most - 1, most} {
		k := split(n)
		for _, m := range []int{1, 2, 3, 4, 7, 8, 9, n / 3, k/2 - 1, k / 2, k/2 + 1, k - 1, k, k + 1, n - 2, n - 1} {
			if m < n {
				out = append(out, pair{m, n})
			}
		}
	}
	return out
}

// changed returns a digest of which the last bit is another one.
func changed(d string) string {
	return d[:31] + string([]byte{d[31] ^ 1})
}

// P7.3: a proof is accepted for the roots of its lists.
func TestCheckProof(t *testing.T) {
	l := list(1000)
	for n := range 70 {
		for m := range n + 1 {
			p, e := cons.Prove(l[:n], m)
			if f := cons.Check(m, n, reference(l[:m]), reference(l[:n]), p); e != api.OK || f != api.OK {
				t.Errorf("Prove and Check for %d of %d: %d, %d", m, n, e, f)
			}
		}
	}
	for _, n := range []int{127, 128, 129, 255, 256, 257, 1000} {
		for _, m := range []int{0, 1, 2, 3, 63, 64, 65, n / 2, n/2 + 1, n - 1, n} {
			p, e := cons.Prove(l[:n], m)
			if f := cons.Check(m, n, reference(l[:m]), reference(l[:n]), p); e != api.OK || f != api.OK {
				t.Errorf("Prove and Check for %d of %d: %d, %d", m, n, e, f)
			}
		}
	}
}

// P7.2: any digests prove the roots that are recomputed from them, for the first of up to 2^40 leaves.
func TestCheckRebuilt(t *testing.T) {
	l := list(60)
	for _, c := range pairs() {
		p := l[:proofLength(c.m, c.n, false)]
		r := rebuilt(c.m, c.n, l[59], p)
		if e := cons.Check(c.m, c.n, r.one, r.two, p); e != api.OK {
			t.Errorf("Check for %d of %d: %d", c.m, c.n, e)
		}
	}
}

// P7.2: for the first leaves, if they are a power of two, the first root itself is combined with the digests.
func TestCheckPowers(t *testing.T) {
	l := list(45)
	for b := range 40 {
		m, p := 1<<b, l[:40-b]
		two := l[44]
		for _, d := range p {
			two = node(two, d)
		}
		if e := cons.Check(m, most, l[44], two, p); e != api.OK {
			t.Errorf("Check for %d of 2^40: %d", m, e)
		}
		if e := cons.Check(m, m+1, l[44], node(l[44], l[0]), l[:1]); e != api.OK {
			t.Errorf("Check for %d of one more: %d", m, e)
		}
	}
}

// P7.2: for no leaves, an empty proof and the sum of no bytes are accepted, whatever the second root is.
func TestCheckNone(t *testing.T) {
	none, l := sha.Sum(nil), list(3)
	for _, n := range []int{0, 1, 2, 3, 7, 8, 9, 1 << 31, most - 1, most} {
		for _, two := range []string{none, l[0], changed(none), strings.Repeat("\x00", 32), strings.Repeat("\xff", 32)} {
			for _, empty := range [][]string{nil, {}} {
				if e := cons.Check(0, n, none, two, empty); e != api.OK {
					t.Errorf("Check for none of %d and %x: %d", n, two, e)
				}
				for _, one := range []string{l[0], changed(none), two[1:] + "a"} {
					if e := cons.Check(0, n, one, two, empty); e != api.ErrProof {
						t.Errorf("Check for none of %d, %x and %x: %d", n, one, two, e)
					}
				}
				if e := cons.Check(0, n, l[1], l[1], empty); e != api.ErrProof {
					t.Errorf("Check for none of %d with equal roots: %d", n, e)
				}
			}
			for _, p := range [][]string{{none}, {two}, l, {""}} {
				if e := cons.Check(0, n, none, two, p); e != api.ErrProof {
					t.Errorf("Check for none of %d by %x: %d", n, p, e)
				}
			}
		}
	}
}

// P7.2: for all leaves, an empty proof and equal roots are accepted.
func TestCheckAll(t *testing.T) {
	none, l := sha.Sum(nil), list(3)
	for _, n := range []int{1, 2, 3, 7, 8, 9, 1 << 31, most - 1, most} {
		for _, d := range []string{none, l[0], strings.Repeat("\x00", 32), strings.Repeat("\xff", 32)} {
			for _, empty := range [][]string{nil, {}} {
				if e := cons.Check(n, n, d, strings.Clone(d), empty); e != api.OK {
					t.Errorf("Check for all of %d and %x: %d", n, d, e)
				}
				for _, other := range []string{changed(d), l[1], d[1:] + "a"} {
					if e := cons.Check(n, n, d, other, empty); e != api.ErrProof {
						t.Errorf("Check for all of %d, %x and %x: %d", n, d, other, e)
					}
				}
				if e := cons.Check(n, n, none, l[2], empty); e != api.ErrProof {
					t.Errorf("Check for all of %d with the first root of none: %d", n, e)
				}
			}
			for _, p := range [][]string{{none}, {d}, l, {""}} {
				if e := cons.Check(n, n, d, d, p); e != api.ErrProof {
					t.Errorf("Check for all of %d by %x: %d", n, p, e)
				}
			}
		}
	}
}

// P7.4: a proof of another length is not accepted, whatever roots its digests yield.
func TestCheckLength(t *testing.T) {
	l := list(60)
	for _, c := range pairs() {
		length := proofLength(c.m, c.n, false)
		p := l[1 : 1+length]
		s, taken := stages(c.m, c.n, l[59], p, false)
		for j, r := range s[:len(s)-1] {
			if e := cons.Check(c.m, c.n, r.one, r.two, p[:j+taken]); e != api.ErrProof {
				t.Errorf("Check for %d of %d by the first %d: %d", c.m, c.n, j+taken, e)
			}
		}
		r := s[len(s)-1]
		for _, other := range [][]string{
			nil, p[1:], p[:length-1],
			l[:1+length], l[1 : 2+length], append([]string{r.one}, p...), append([]string{r.two}, p...), append(slices.Clone(p), p...),
			append(slices.Clone(p), p[length-1]), append(slices.Clone(p), r.two), append(slices.Clone(p), sha.Sum(nil)),
			l[:50], l,
		} {
			if len(other) == length {
				continue
			}
			if e := cons.Check(c.m, c.n, r.one, r.two, other); e != api.ErrProof {
				t.Errorf("Check for %d of %d by %d in place of %d: %d", c.m, c.n, len(other), length, e)
			}
		}
	}
}

// P7.4: each length but the right one.
func TestCheckLengths(t *testing.T) {
	l := list(60)
	for _, c := range pairs() {
		for length := range 45 {
			if length == proofLength(c.m, c.n, false) {
				continue
			}
			for _, r := range []roots{{l[59], l[59]}, {l[0], l[0]}, {sha.Sum(nil), l[0]}, {l[0], l[1]}} {
				if e := cons.Check(c.m, c.n, r.one, r.two, l[:length]); e != api.ErrProof {
					t.Errorf("Check for %d of %d by %d: %d", c.m, c.n, length, e)
				}
			}
		}
	}
}

// P7.2: a proof with an element that is no digest, at any index, even if the roots are recomputed with it.
func TestCheckWrong(t *testing.T) {
	l := list(60)
	for _, c := range pairs() {
		length := proofLength(c.m, c.n, false)
		for at := range length {
			for _, w := range wrong() {
				p := slices.Clone(l[:length])
				right := rebuilt(c.m, c.n, l[59], p)
				p[at] = w
				for _, r := range []roots{rebuilt(c.m, c.n, l[59], p), right} {
					if len(r.one) != 32 || len(r.two) != 32 {
						continue
					}
					if e := cons.Check(c.m, c.n, r.one, r.two, p); e != api.ErrProof {
						t.Errorf("Check for %d of %d with %q at %d: %d", c.m, c.n, w, at, e)
					}
				}
			}
		}
	}
}

// P7.2: a proof with another digest, or in another order.
func TestCheckChanged(t *testing.T) {
	l := list(60)
	for _, c := range pairs() {
		length := proofLength(c.m, c.n, false)
		p := l[:length]
		r := rebuilt(c.m, c.n, l[59], p)
		for at := range length {
			other := slices.Clone(p)
			other[at] = changed(other[at])
			if e := cons.Check(c.m, c.n, r.one, r.two, other); e != api.ErrProof {
				t.Errorf("Check for %d of %d with another %d: %d", c.m, c.n, at, e)
			}
			for next := range at {
				if length > 12 && next > 0 && next < at-1 {
					continue
				}
				other := slices.Clone(p)
				other[at], other[next] = other[next], other[at]
				if e := cons.Check(c.m, c.n, r.one, r.two, other); e != api.ErrProof {
					t.Errorf("Check for %d of %d with %d and %d exchanged: %d", c.m, c.n, at, next, e)
				}
			}
		}
	}
}

// P7.2: other roots than those that are recomputed, one of them or both.
func TestCheckRoots(t *testing.T) {
	l := list(60)
	for _, c := range pairs() {
		p := l[:proofLength(c.m, c.n, false)]
		r := rebuilt(c.m, c.n, l[59], p)
		for _, o := range []roots{
			{changed(r.one), r.two}, {r.one, changed(r.two)}, {changed(r.one), changed(r.two)},
			{r.two, r.one}, {r.one, r.one}, {r.two, r.two}, {l[58], r.two}, {r.one, l[58]}, {sha.Sum(nil), r.two}, {r.one, sha.Sum(nil)},
			{p[0], r.two}, {r.one, p[0]}, {p[len(p)-1], r.two}, {r.one, p[len(p)-1]},
		} {
			if e := cons.Check(c.m, c.n, o.one, o.two, p); e != api.ErrProof && o != r {
				t.Errorf("Check for %d of %d, %x and %x: %d", c.m, c.n, o.one, o.two, e)
			}
		}
	}
}

// P7.2: for other numbers of leaves, a proof is accepted only if the same roots are recomputed from it.
func TestCheckNumbers(t *testing.T) {
	l := list(60)
	for _, c := range pairs() {
		p := l[:proofLength(c.m, c.n, false)]
		r := rebuilt(c.m, c.n, l[59], p)
		for _, o := range []pair{
			{c.m - 1, c.n}, {c.m + 1, c.n}, {c.m, c.n - 1}, {c.m, c.n + 1}, {c.m - 1, c.n - 1}, {c.m + 1, c.n + 1},
			{2 * c.m, 2 * c.n}, {c.m / 2, c.n / 2}, {c.n - c.m, c.n}, {0, c.n}, {c.n, c.n}, {c.m, c.m}, {0, 0},
		} {
			if o.n > most {
				continue
			}
			want := api.ErrProof
			if accepted(o.m, o.n, r, p) {
				want = api.OK
			}
			if e := cons.Check(o.m, o.n, r.one, r.two, p); e != want {
				t.Errorf("Check for %d of %d by a proof for %d of %d: %d", o.m, o.n, c.m, c.n, e)
			}
		}
	}
}

// P7.2 and R2: wrong numbers of leaves and roots that are no digests come first, whatever the proof is.
func TestCheckArguments(t *testing.T) {
	none, l := sha.Sum(nil), list(3)
	type call struct {
		pair
		roots
	}
	var calls []call
	for _, c := range []pair{
		{-1, 0}, {-1, 1}, {-1, -1}, {-2, -1}, {-1, -2}, {0, -1}, {1, 0}, {2, 1}, {8, 7}, {most, most - 1}, {most + 1, most},
		{0, most + 1}, {1, most + 1}, {most, most + 1}, {most + 1, most + 1}, {0, 1 << 41}, {1 << 40, 1 << 41}, {0, api.MaxNum}, {0, math.MaxInt}, {math.MaxInt, math.MaxInt},
		{math.MinInt, 0}, {math.MinInt, math.MinInt}, {math.MinInt, math.MaxInt}, {math.MaxInt, 0}, {math.MaxInt, math.MinInt}, {0, math.MinInt}, {-1, most}, {-1, most + 1},
	} {
		for _, r := range []roots{{none, none}, {none, l[0]}, {l[0], l[0]}, {"", ""}, {l[0], "a"}, {l[0][:31], l[1]}} {
			calls = append(calls, call{c, r})
		}
	}
	for _, c := range []pair{{0, 0}, {0, 1}, {1, 1}, {1, 2}, {3, 7}, {4, 8}, {0, most}, {1, most}, {most, most}} {
		for _, w := range wrong() {
			calls = append(calls, call{c, roots{w, l[0]}}, call{c, roots{l[0], w}}, call{c, roots{none, w}}, call{c, roots{w, w}})
		}
	}
	for _, c := range calls {
		for _, p := range [][]string{nil, {}, list(1), list(4), list(40), list(41), {""}, {l[0][:31]}, {l[0], l[1] + "a"}, wrong()} {
			if e := cons.Check(c.m, c.n, c.one, c.two, p); e != api.ErrArg {
				t.Errorf("Check for %d of %d, %x and %x by %x: %d", c.m, c.n, c.one, c.two, p, e)
			}
		}
	}
}

// P7.5: of many second roots, one is accepted.
func TestCheckSecond(t *testing.T) {
	l := list(60)
	for _, c := range append(pairs(), pair{1, 1}, pair{2, 2}, pair{7, 7}, pair{most, most}) {
		p := l[:proofLength(c.m, c.n, false)]
		r := roots{l[59], l[59]}
		if c.m < c.n {
			r = rebuilt(c.m, c.n, l[59], p)
		}
		seconds := append(slices.Clone(l), r.one, r.two, sha.Sum(nil))
		for i := range 32 {
			b := []byte(r.two)
			b[i] ^= 1 << (i % 8)
			seconds = append(seconds, string(b))
		}
		for _, two := range seconds {
			want := api.ErrProof
			if two == r.two {
				want = api.OK
			}
			if e := cons.Check(c.m, c.n, r.one, two, p); e != want {
				t.Errorf("Check for %d of %d and %x: %d", c.m, c.n, two, e)
			}
		}
	}
}

// R3: the proof is not modified, also not beyond its end.
func TestCheckMemory(t *testing.T) {
	for _, c := range append(pairs(), pair{0, 0}, pair{0, 3}, pair{3, 3}) {
		length := proofLength(c.m, c.n, false)
		wide := append(list(length), "hay", "wain")
		cons.Check(c.m, c.n, sha.Sum(nil), sha.Sum(nil), wide[:length])
		cons.Check(c.m, c.n, sha.Sum(nil), sha.Sum(nil), wide)
		if !slices.Equal(wide, append(list(length), "hay", "wain")) {
			t.Errorf("Check for %d of %d: the proof was modified: %x", c.m, c.n, wide)
		}
	}
}
