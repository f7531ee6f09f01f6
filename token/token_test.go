package token_test

import (
	"bytes"
	"cmp"
	"regexp"
	"slices"
	"strings"
	"testing"
	"unicode/utf8"

	"rubrick/api"
	"rubrick/token"
)

// wordPattern matches the words of a byte string, by the ranges of letters and digits.
var wordPattern = regexp.MustCompile(`[\x{30}-\x{39}\x{41}-\x{5a}\x{61}-\x{7a}\x{c0}-\x{d6}\x{d8}-\x{f6}\x{f8}-\x{ff}\x{391}-\x{3a1}\x{3a3}-\x{3a9}\x{3b1}-\x{3c9}\x{400}-\x{45f}]+`)

// reference returns the terms of b, by the library.
func reference(b []byte) []string {
	var out []string
	for _, w := range wordPattern.FindAll(b, -1) {
		s := strings.ToLower(string(w))
		for len(s) > api.MaxTerm {
			_, n := utf8.DecodeLastRuneInString(s)
			s = s[:len(s)-n]
		}
		out = append(out, s)
	}
	return out
}

// a returns a string of n letters.
func a(n int) string {
	return strings.Repeat("a", n)
}

// cases are byte strings and their terms.
var cases = []struct {
	b    string
	want []string
}{
	{"Hay, hay-WAIN 7", []string{"hay", "hay", "wain", "7"}},
	{"", nil},
	{" ", nil},
	{".,;-_ \t\n\x00\x7f", nil},
	{"\xff\xfe, .", nil},
	{"\xf0\x9f\x98\x80 \xe2\x82\xac \xef\xbf\xbd", nil},
	{"a", []string{"a"}},
	{"Z", []string{"z"}},
	{"0", []string{"0"}},
	{"0 9", []string{"0", "9"}},
	{"hay", []string{"hay"}},
	{" hay ", []string{"hay"}},
	{"\nhay\r\n", []string{"hay"}},
	{"b a b", []string{"b", "a", "b"}},
	{"7hay7", []string{"7hay7"}},
	{"hay_wain hay's", []string{"hay", "wain", "hay", "s"}},
	{"a/b:c@d[e`f{g", []string{"a", "b", "c", "d", "e", "f", "g"}},
	{"a\x00b", []string{"a", "b"}},
	// characters of several bytes
	{"\xc3\x84", []string{"\xc3\xa4"}},
	{"H\xc3\x84U\xc3\x9f", []string{"h\xc3\xa4u\xc3\x9f"}},
	{"\xc3\x97a\xc3\xb7b", []string{"a", "b"}},
	{"\xce\x91\xce\xa9 \xd0\x81\xd0\x90", []string{"\xce\xb1\xcf\x89", "\xd1\x91\xd0\xb0"}},
	{"a\xe2\x82\xacb\xf0\x9f\x98\x80c", []string{"a", "b", "c"}},
	{"a\xc4\x80b", []string{"a", "b"}},
	// bytes of no character, within a word and beside one
	{"ha\xffy", []string{"ha", "y"}},
	{"\xffhay", []string{"hay"}},
	{"hay\xff", []string{"hay"}},
	{"hay\xc3", []string{"hay"}},
	{"\xa4hay", []string{"hay"}},
	{"h\xc3y", []string{"h", "y"}},
	{"h\xa4y", []string{"h", "y"}},
	{"h\xc3\xc3\xa4y", []string{"h", "\xc3\xa4y"}},
	{"h\xc3\xa4\xa4y", []string{"h\xc3\xa4", "y"}},
	{"a\xc1\x81b", []string{"a", "b"}},
	{"a\xed\xa0\x80b", []string{"a", "b"}},
	{"a\xef\xbf\xbdb", []string{"a", "b"}},
	// words at MaxTerm and past it
	{a(63), []string{a(63)}},
	{a(64), []string{a(64)}},
	{a(65), []string{a(64)}},
	{a(66), []string{a(64)}},
	{a(1999), []string{a(64)}},
	{a(64) + "b", []string{a(64)}},
	{a(63) + "b", []string{a(63) + "b"}},
	{a(63) + "B7", []string{a(63) + "b"}},
	{a(65) + " " + a(65) + " x", []string{a(64), a(64), "x"}},
	{a(62) + "\xc3\x84", []string{a(62) + "\xc3\xa4"}},
	{a(62) + "\xc3\x84b", []string{a(62) + "\xc3\xa4"}},
	{a(63) + "\xc3\x84", []string{a(63)}},
	{a(63) + "\xc3\x84b", []string{a(63)}},
	{a(63) + "\xc3\x84\xc3\x84bcd x", []string{a(63), "x"}},
	{a(64) + "\xc3\x84b", []string{a(64)}},
	{strings.Repeat("\xc3\x84", 31), []string{strings.Repeat("\xc3\xa4", 31)}},
	{strings.Repeat("\xc3\x84", 32), []string{strings.Repeat("\xc3\xa4", 32)}},
	{strings.Repeat("\xc3\x84", 33), []string{strings.Repeat("\xc3\xa4", 32)}},
	{"a" + strings.Repeat("\xd0\x81", 32) + "b", []string{"a" + strings.Repeat("\xd1\x91", 31)}},
	{a(63) + "\xff" + a(2), []string{a(63), a(2)}},
}

// mixed returns byte strings of pieces of all kinds, put together by a short rule.
func mixed() [][]byte {
	pieces := []string{"a", "B", "7", "hay", "WAIN", " ", "-", "\xff", "\xc3", "\xa4", "\xc3\xa4", "\xc3\x84", "\xc3\x97", "\xd0\x81", "\xce\xa3", "\xe2\x82\xac", "\xe2\x82", "\xf0\x9f", "\xef\xbf\xbd", a(61), a(63), a(64)}
	var out [][]byte
	x := uint32(1)
	for n := range 4000 {
		var b []byte
		for range n % 12 {
			x = x*1664525 + 1013904223
			b = append(b, pieces[x>>16%uint32(len(pieces))]...)
		}
		out = append(out, b)
	}
	return out
}

// P5.1: the terms of byte strings, in order.
func TestTerms(t *testing.T) {
	for _, c := range cases {
		if got := token.Terms([]byte(c.b)); !slices.Equal(got, c.want) {
			t.Errorf("Terms(%q): %q, want %q", c.b, got, c.want)
		}
	}
	if got := token.Terms(nil); len(got) != 0 {
		t.Errorf("Terms of nil: %q", got)
	}
}

// P5.1: the terms of mixed byte strings, against the library.
func TestTermsReference(t *testing.T) {
	for _, b := range mixed() {
		if got, want := token.Terms(b), reference(b); !slices.Equal(got, want) {
			t.Fatalf("Terms(%q): %q, want %q", b, got, want)
		}
	}
}

// P5.1: every byte and every character, between letters: is it part of the word, or does it end it?
func TestTermsEachCharacter(t *testing.T) {
	for x := range 256 {
		b := []byte{'h', byte(x), 'Y'}
		if got, want := token.Terms(b), reference(b); !slices.Equal(got, want) {
			t.Errorf("Terms(%q): %q, want %q", b, got, want)
		}
	}
	for c := range 0x3000 {
		b := []byte("h" + string(rune(c)) + "Y")
		if got, want := token.Terms(b), reference(b); !slices.Equal(got, want) {
			t.Errorf("Terms(%q): %q, want %q", b, got, want)
		}
	}
}

// P5.1: the set, in increasing order byte by byte, each once.
func TestSet(t *testing.T) {
	for b, want := range map[string][]string{
		"":                                nil,
		"., \xff":                         nil,
		"hay":                             {"hay"},
		"hay hay hay":                     {"hay"},
		"Hay, hay-WAIN 7":                 {"7", "hay", "wain"},
		"b a b a":                         {"a", "b"},
		"wain hay HAY Wain":               {"hay", "wain"},
		"10 9 2 1":                        {"1", "10", "2", "9"},
		"hays hay ha":                     {"ha", "hay", "hays"},
		"\xd0\xb0 \xc3\xa4 z Z 0":         {"0", "z", "\xc3\xa4", "\xd0\xb0"},
		a(65) + " " + a(64) + " " + a(63): {a(63), a(64)},
	} {
		if got := token.Set([]byte(b)); !slices.Equal(got, want) {
			t.Errorf("Set(%q): %q, want %q", b, got, want)
		}
	}
	if got := token.Set(nil); len(got) != 0 {
		t.Errorf("Set of nil: %q", got)
	}
}

// P5.1 and P5.5: the set has the elements of the terms and no others, each greater than the one ahead of it.
func TestSetMixed(t *testing.T) {
	for _, b := range mixed() {
		set := token.Set(b)
		for i := 1; i < len(set); i++ {
			if bytes.Compare([]byte(set[i-1]), []byte(set[i])) >= 0 {
				t.Fatalf("Set(%q): %q", b, set)
			}
		}
		terms := token.Terms(b)
		for _, s := range terms {
			if !slices.Contains(set, s) {
				t.Fatalf("Set(%q) lacks %q", b, s)
			}
		}
		for _, s := range set {
			if !slices.Contains(terms, s) {
				t.Fatalf("Set(%q) has %q", b, s)
			}
		}
	}
}

// P5.1: terms with the indices of their words, by term and then by index.
func TestPositions(t *testing.T) {
	for b, want := range map[string][]token.At{
		"":                    nil,
		"., \xff":             nil,
		"hay":                 {{"hay", 0}},
		"Hay, hay-WAIN 7":     {{"7", 3}, {"hay", 0}, {"hay", 1}, {"wain", 2}},
		"b a b a b":           {{"a", 1}, {"a", 3}, {"b", 0}, {"b", 2}, {"b", 4}},
		"hays hay ha hays":    {{"ha", 2}, {"hay", 1}, {"hays", 0}, {"hays", 3}},
		a(65) + " b " + a(66): {{a(64), 0}, {a(64), 2}, {"b", 1}},
	} {
		if got := token.Positions([]byte(b)); !slices.Equal(got, want) {
			t.Errorf("Positions(%q): %v, want %v", b, got, want)
		}
	}
	if got := token.Positions(nil); len(got) != 0 {
		t.Errorf("Positions of nil: %v", got)
	}
}

// P5.1: every word has its position, also where more than ten words have one term.
func TestPositionsMixed(t *testing.T) {
	all := append(mixed(), []byte(strings.Repeat("b A ", 400)), []byte(strings.Repeat("x", 70)+strings.Repeat(" y x", 50)))
	for _, b := range all {
		var want []token.At
		for i, s := range reference(b) {
			want = append(want, token.At{Term: s, Word: i})
		}
		slices.SortFunc(want, func(x, y token.At) int {
			return cmp.Or(cmp.Compare(x.Term, y.Term), cmp.Compare(x.Word, y.Word))
		})
		if got := token.Positions(b); !slices.Equal(got, want) {
			t.Fatalf("Positions(%q): %v, want %v", b, got, want)
		}
	}
}

// P5.2: the indices of the words that have a term.
func TestPlaces(t *testing.T) {
	for _, c := range []struct {
		b, term string
		want    []int
	}{
		{"Hay, hay-WAIN 7", "hay", []int{0, 1}},
		{"Hay, hay-WAIN 7", "wain", []int{2}},
		{"Hay, hay-WAIN 7", "7", []int{3}},
		{"Hay, hay-WAIN 7", "ox", nil},
		{"b a b a b", "b", []int{0, 2, 4}},
		{"b a b a b", "a", []int{1, 3}},
		{"hays hay ha", "hay", []int{1}},
		{"H\xc3\x84 h\xc3\xa4", "h\xc3\xa4", []int{0, 1}},
		{a(65) + " b " + a(64) + " " + a(63), a(64), []int{0, 2}},
		{"ha\xffy ha", "ha", []int{0, 2}},
		{"", "hay", nil},
		{"., \xff", "hay", nil},
	} {
		if got := token.Places([]byte(c.b), c.term); !slices.Equal(got, c.want) {
			t.Errorf("Places(%q, %q): %v, want %v", c.b, c.term, got, c.want)
		}
	}
}

// P5.2: no word has a text that is no term.
func TestPlacesWrong(t *testing.T) {
	for _, c := range []struct{ b, term string }{
		{"Hay, hay-WAIN 7", ""},
		{"Hay, hay-WAIN 7", "Hay"},
		{"Hay, hay-WAIN 7", "WAIN"},
		{"Hay, hay-WAIN 7", "hay-wain"},
		{"hay wain", "hay wain"},
		{"hay wain", " hay"},
		{"hay wain", "hay "},
		{"hay\xff", "hay\xff"},
		{"hay, .", "."},
		{"\xff", "\xff"},
		{"\xff", "\xef\xbf\xbd"},
		{"", ""},
		{". ,", ""},
		{"H\xc3\x84", "H\xc3\x84"},
		{a(65), a(65)},
		{a(63) + "\xc3\xa4b", a(63) + "\xc3\xa4b"},
		{a(63) + "\xc3\xa4b", a(63) + "\xc3"},
		{a(63) + "\xc3\xa4b", a(63) + "b"},
	} {
		if got := token.Places([]byte(c.b), c.term); len(got) != 0 {
			t.Errorf("Places(%q, %q): %v", c.b, c.term, got)
		}
	}
	if got := token.Places(nil, "hay"); len(got) != 0 {
		t.Errorf("Places of nil: %v", got)
	}
}

// P5.2: for mixed byte strings, all places of all terms.
func TestPlacesMixed(t *testing.T) {
	for _, b := range mixed() {
		terms := reference(b)
		for _, s := range append(terms, "ox", "A", "") {
			var want []int
			for i, other := range terms {
				if other == s {
					want = append(want, i)
				}
			}
			if got := token.Places(b, s); !slices.Equal(got, want) {
				t.Fatalf("Places(%q, %q): %v, want %v", b, s, got, want)
			}
		}
	}
}

// P5.2: what is a valid term.
func TestRight(t *testing.T) {
	for _, s := range []string{
		"a", "z", "0", "9", "7", "hay", "wain", "7hay7", "\xc3\xa4", "h\xc3\xa4u\xc3\x9f", "\xce\xb1\xcf\x82\xcf\x89", "\xd1\x91\xd0\xb0\xd1\x9f",
		a(63), a(64), a(62) + "\xc3\xa4", strings.Repeat("\xc3\xa4", 32),
	} {
		if !token.Right(s) {
			t.Errorf("Right(%q): false", s)
		}
	}
}

// P5.2: what is no valid term.
func TestRightWrong(t *testing.T) {
	for _, s := range []string{
		"", " ", "-", ".", "\x00", "\xff", "\xc3", "\xef\xbf\xbd", "\xf0\x9f\x98\x80", "\xc3\x97", "\xc4\x81",
		"A", "Hay", "haY", "hAy", "HAY", "\xc3\x84", "h\xc3\x84", "\xce\xa3", "\xd0\x81", "\xd0\x90",
		"hay wain", "hay-wain", "hay hay", "a b", "hay\xffwain",
		" hay", "hay ", "\nhay", "hay\n", "-hay", "hay.", "\x00hay", "hay\x00", "\xffhay", "hay\xff", "hay\xc3", "\xa4hay", "ha\xc3y", "hay\xef\xbf\xbd",
		"h\xc1\xa1y",
		a(65), a(66), a(64) + " ", a(64) + "\xff", a(63) + "\xc3\xa4", a(62) + "\xc3\xa4b", strings.Repeat("\xc3\xa4", 33), a(2000),
		a(64) + " " + a(64),
	} {
		if token.Right(s) {
			t.Errorf("Right(%q): true", s)
		}
	}
}

// P5.2: whatever a string is, it is right just if it is its only term.
func TestRightMixed(t *testing.T) {
	right := 0
	for _, b := range mixed() {
		terms := reference(b)
		want := len(terms) == 1 && terms[0] == string(b)
		if want {
			right++
		}
		if token.Right(string(b)) != want {
			t.Errorf("Right(%q): %t", b, !want)
		}
	}
	if right < 20 {
		t.Errorf("only %d valid terms among the mixed", right)
	}
}

// P5.3: each term is valid, and has itself as its only term.
func TestTermsAreRight(t *testing.T) {
	all := mixed()
	for _, c := range cases {
		all = append(all, []byte(c.b))
	}
	for _, b := range all {
		for _, s := range token.Terms(b) {
			if !token.Right(s) {
				t.Fatalf("%q, a term of %q, isn't right", s, b)
			}
			if again := token.Terms([]byte(s)); !slices.Equal(again, []string{s}) {
				t.Fatalf("the terms of %q, a term of %q: %q", s, b, again)
			}
		}
	}
}

// P5.4: with a byte between them that does not belong to a word, two byte strings keep their terms.
func TestTermsOfBoth(t *testing.T) {
	all := mixed()
	for i, first := range all {
		second := all[len(all)-1-i]
		want := append(token.Terms(first), token.Terms(second)...)
		for _, between := range []byte{' ', 0x00, '-', '@', 0x7f, 0xff, 0xc0, 0xf8} {
			b := slices.Concat(first, []byte{between}, second)
			if got := token.Terms(b); !slices.Equal(got, want) {
				t.Fatalf("Terms(%q): %q, want %q", b, got, want)
			}
		}
	}
}

// R3: arguments are not modified, and results are new memory, to their spare capacity.
func TestMemory(t *testing.T) {
	const text = "Hay, hay-WAIN 7 H\xc3\x84 \xff b a b a"
	b := []byte(text)
	terms, set, places, positions := token.Terms(b), token.Set(b), token.Places(b, "hay"), token.Positions(b)
	if string(b) != text {
		t.Errorf("the argument is modified: %q", b)
	}
	clear(b)
	if !slices.Equal(terms, reference([]byte(text))) || !slices.Equal(set, []string{"7", "a", "b", "hay", "h\xc3\xa4", "wain"}) {
		t.Errorf("Terms or Set retained the argument: %q, %q", terms, set)
	}
	if !slices.Equal(places, []int{0, 1}) || len(positions) != 9 || positions[8] != (token.At{Term: "wain", Word: 2}) {
		t.Errorf("Places or Positions retained the argument: %v, %v", places, positions)
	}
	clear(terms[:cap(terms)])
	clear(set[:cap(set)])
	clear(places[:cap(places)])
	clear(positions[:cap(positions)])
	b = []byte(text)
	if len(token.Terms(b)) != 9 || token.Terms(b)[0] != "hay" || token.Set(b)[0] != "7" || token.Places(b, "hay")[1] != 1 || token.Positions(b)[0].Word != 3 {
		t.Error("results share memory")
	}
}
