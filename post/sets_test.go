package post_test

import (
	"math"
	"math/rand/v2"
	"slices"
	"testing"

	"rubrick/api"
	"rubrick/post"
)

// sets are the functions of two lists, with what each asks of a number that is in the first one, or in the second one.
var sets = []struct {
	name string
	call func(a, b []int) []int
	want func(inA, inB bool) bool
}{
	{"Both", post.Both, func(inA, inB bool) bool { return inA && inB }},
	{"Either", post.Either, func(inA, inB bool) bool { return inA || inB }},
	{"But", post.But, func(inA, inB bool) bool { return inA && !inB }},
}

// members says of each document's number whether it is in l; it is not, if l is no posting list.
func members(l []int) [api.MaxDocs]bool {
	var in [api.MaxDocs]bool
	if !post.Right(l) {
		return in
	}
	for _, v := range l {
		in[v] = true
	}
	return in
}

// chosen returns the numbers from 0 to MaxDocs - 1 that want asks for.
func chosen(a, b []int, want func(inA, inB bool) bool) []int {
	inA, inB := members(a), members(b)
	var l []int
	for v := range api.MaxDocs {
		if want(inA[v], inB[v]) {
			l = append(l, v)
		}
	}
	return l
}

// spanned returns the elements of l that are in s, as the words of P9.3 say it.
func spanned(l []int, s api.Span) []int {
	var out []int
	for _, v := range l {
		if post.Right(l) && v >= s.From && v < s.To {
			out = append(out, v)
		}
	}
	return out
}

// few returns all posting lists that consist of numbers of all, which is one itself.
func few(all ...int) [][]int {
	var out [][]int
	for bits := range 1 << len(all) {
		var l []int
		for i, v := range all {
			if bits>>i&1 == 1 {
				l = append(l, v)
			}
		}
		out = append(out, l)
	}
	return out
}

// expectSets tells if a function of two lists returns other numbers than the words say, or no posting list.
func expectSets(t *testing.T, a, b []int) {
	t.Helper()
	for _, c := range sets {
		got, want := c.call(a, b), chosen(a, b, c.want)
		if !slices.Equal(got, want) || !post.Right(got) {
			t.Errorf("%s(%v, %v): %v, want %v", c.name, a, b, got, want)
		}
	}
}

// P9.3: sets that are written out.
func TestSetsExamples(t *testing.T) {
	for _, c := range []struct{ a, b, both, either, but []int }{
		{nil, nil, nil, nil, nil},
		{[]int{0}, nil, nil, []int{0}, []int{0}},
		{nil, []int{0}, nil, []int{0}, nil},
		{[]int{999}, []int{999}, []int{999}, []int{999}, nil},
		{[]int{0, 999}, []int{999}, []int{999}, []int{0, 999}, []int{0}},
		{[]int{0, 3, 4}, []int{3, 5}, []int{3}, []int{0, 3, 4, 5}, []int{0, 4}},
		{[]int{3, 5}, []int{0, 3, 4}, []int{3}, []int{0, 3, 4, 5}, []int{5}},
		{[]int{0, 3, 4}, []int{2, 1}, nil, []int{0, 3, 4}, []int{0, 3, 4}},
		{[]int{2, 1}, []int{0, 3, 4}, nil, []int{0, 3, 4}, nil},
		{[]int{2, 1}, []int{2, 1}, nil, nil, nil},
		{[]int{1000}, []int{-1}, nil, nil, nil},
		{[]int{0, 1000}, []int{0, 1}, nil, []int{0, 1}, nil},
	} {
		both, either, but := post.Both(c.a, c.b), post.Either(c.a, c.b), post.But(c.a, c.b)
		if !slices.Equal(both, c.both) || !slices.Equal(either, c.either) || !slices.Equal(but, c.but) {
			t.Errorf("%v and %v: %v, %v, %v", c.a, c.b, both, either, but)
		}
	}
}

// P9.3 and P9.5: all lists of some numbers, at both ends, against the words.
func TestSetsFew(t *testing.T) {
	l := few(0, 1, 2, 500, 998, 999)
	for _, a := range l {
		for _, b := range l {
			expectSets(t, a, b)
		}
	}
}

// P9.3 and P9.5: posting lists of all kinds, against the words.
func TestSets(t *testing.T) {
	for _, a := range rightLists() {
		for _, b := range rightLists() {
			expectSets(t, a, b)
		}
	}
}

// P9.3 and P9.5: the empty list takes the place of what is no posting list, in the one place, in the other one, or in both.
func TestSetsWrong(t *testing.T) {
	for _, bad := range wrongLists() {
		for _, l := range rightLists() {
			expectSets(t, bad, l)
			expectSets(t, l, bad)
		}
		for _, other := range wrongLists() {
			expectSets(t, bad, other)
		}
	}
}

// P9.6: what is in both and what is not make up the first list, and the order of two lists is of no account to Both and Either.
func TestSetsLaws(t *testing.T) {
	lists := append(rightLists(), wrongLists()...)
	for _, a := range lists {
		for _, b := range lists {
			first := a
			if !post.Right(a) {
				first = nil
			}
			if got := post.Either(post.Both(a, b), post.But(a, b)); !slices.Equal(got, first) {
				t.Errorf("Either of Both and But of %v, %v: %v", a, b, got)
			}
			if !slices.Equal(post.Both(a, b), post.Both(b, a)) {
				t.Errorf("Both of %v, %v depends on their order", a, b)
			}
			if !slices.Equal(post.Either(a, b), post.Either(b, a)) {
				t.Errorf("Either of %v, %v depends on their order", a, b)
			}
		}
	}
}

// P9.3: spans that are written out: of nothing, of all, in the wrong order, and beyond the numbers.
func TestInExamples(t *testing.T) {
	l := []int{0, 3, 4, 999}
	for _, c := range []struct {
		from, to int
		want     []int
	}{
		{0, api.MaxDocs, l},
		{0, 0, nil},
		{3, 3, nil},
		{0, 1, []int{0}},
		{1, 3, nil},
		{1, 4, []int{3}},
		{3, 4, []int{3}},
		{3, 5, []int{3, 4}},
		{2, 10, []int{3, 4}},
		{4, 999, []int{4}},
		{4, 1000, []int{4, 999}},
		{999, 1000, []int{999}},
		{1000, 1000, nil},
		{1000, 2000, nil},
		{-1, 0, nil},
		{-1, 1, []int{0}},
		{-5, 1000, l},
		{-5, -1, nil},
		{0, math.MaxInt, l},
		{math.MinInt, math.MaxInt, l},
		{math.MinInt, math.MinInt, nil},
		{math.MaxInt, math.MaxInt, nil},
		{math.MaxInt, math.MinInt, nil},
		{4, 3, nil},
		{5, 0, nil},
		{1000, 0, nil},
		{999, -1, nil},
	} {
		if got := post.In(l, api.Span{From: c.from, To: c.to}); !slices.Equal(got, c.want) {
			t.Errorf("In(%v, %d to %d): %v, want %v", l, c.from, c.to, got, c.want)
		}
	}
}

// P9.3 and P9.5: spans at all kinds of places, of all kinds of lists, also of those that are no posting lists, against the words.
func TestIn(t *testing.T) {
	ends := []int{math.MinInt, -1, 0, 1, 2, 3, 127, 300, 301, 499, 500, 501, 998, 999, 1000, 1001, math.MaxInt}
	for _, l := range append(rightLists(), wrongLists()...) {
		for _, from := range ends {
			for _, to := range ends {
				s := api.Span{From: from, To: to}
				if got, want := post.In(l, s), spanned(l, s); !slices.Equal(got, want) || !post.Right(got) {
					t.Errorf("In(%v, %v): %v, want %v", l, s, got, want)
				}
			}
		}
	}
}

// P9.3 and P9.5: random lists and spans, against the words.
func TestRandomSets(t *testing.T) {
	r := rand.New(rand.NewPCG(9, 3))
	for range 500 {
		a, b := sample(r, r.IntN(1001)), sample(r, r.IntN(1001))
		expectSets(t, a, b)
		s := api.Span{From: r.IntN(1200) - 100, To: r.IntN(1200) - 100}
		if got, want := post.In(a, s), spanned(a, s); !slices.Equal(got, want) {
			t.Errorf("In(%v, %v): %v, want %v", a, s, got, want)
		}
	}
}
