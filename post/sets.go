package post

import "rubrick/api"

// Both returns the numbers that are in a and in b.
func Both(a, b []int) []int {
	return kept(a, b, func(_ int, inA, inB bool) bool { return inA && inB })
}

// Either returns the numbers that are in a or in b.
func Either(a, b []int) []int {
	return kept(a, b, func(_ int, inA, inB bool) bool { return inA || inB })
}

// But returns the numbers that are in a and not in b.
func But(a, b []int) []int {
	return kept(a, b, func(_ int, inA, inB bool) bool { return inA && !inB })
}

// In returns the numbers of l that are in the span s.
func In(l []int, s api.Span) []int {
	return kept(l, nil, func(v int, _, _ bool) bool { return s.From <= v && v < s.To })
}

// kept goes through the numbers of a and b in order, each once, and returns those that keep wants, which is also told in which of the lists they are.
func kept(a, b []int, keep func(v int, inA, inB bool) bool) []int {
	a, b = orEmpty(a), orEmpty(b)
	var out []int
	for len(a) > 0 || len(b) > 0 {
		v := min(first(a), first(b))
		inA, inB := first(a) == v, first(b) == v
		if keep(v, inA, inB) {
			out = append(out, v)
		}
		if inA {
			a = a[1:]
		}
		if inB {
			b = b[1:]
		}
	}
	return out
}

// orEmpty returns l, or the empty list if l is not a posting list.
func orEmpty(l []int) []int {
	if !Right(l) {
		return nil
	}
	return l
}

// first returns the first number of l, or one that is greater than any, if l has none.
func first(l []int) int {
	if len(l) == 0 {
		return api.MaxDocs
	}
	return l[0]
}
