package utf_test

import (
	"math"
	"testing"
	"unicode"

	"rubrick/utf"
)

// The ranges of the letters and the digits, and those whose characters have another lowercase form.
var (
	letters  = [][2]int{{0x41, 0x5a}, {0x61, 0x7a}, {0xc0, 0xd6}, {0xd8, 0xf6}, {0xf8, 0xff}, {0x391, 0x3a1}, {0x3a3, 0x3a9}, {0x3b1, 0x3c9}, {0x400, 0x45f}}
	digits   = [][2]int{{0x30, 0x39}}
	capitals = [][3]int{{0x41, 0x5a, 0x20}, {0xc0, 0xd6, 0x20}, {0xd8, 0xde, 0x20}, {0x391, 0x3a1, 0x20}, {0x3a3, 0x3a9, 0x20}, {0x410, 0x42f, 0x20}, {0x400, 0x40f, 0x50}}
)

// far are numbers that are in no range.
var far = []int{-1, -0x41, -0x61, -0x30, -0x400, math.MinInt, math.MinInt + 0x41, math.MaxInt, math.MaxInt - 0x41, 1<<8 + 0x241, 1<<16 + 0x41, 1<<32 + 0x41, 1<<32 + 0x30, 1<<32 + 0x410, -1<<32 + 0x41, 0x10ffff, 0x110000, utf.Bad, 0xd800, 0x460, 0x1e00, 0xff21, 0x660, 0xaa, 0xb5, 0xba, 0x100, 0x388, 0x3ca}

// P4.2: both ends of each range of the letters, and the numbers beside them.
func TestLetterEnds(t *testing.T) {
	for _, r := range letters {
		for c, want := range map[int]bool{r[0] - 1: false, r[0]: true, r[1]: true, r[1] + 1: false} {
			if utf.Letter(c) != want {
				t.Errorf("Letter(%x): %t", c, !want)
			}
		}
	}
}

// P4.2: both ends of the range of the digits, and the numbers beside them.
func TestDigitEnds(t *testing.T) {
	for c, want := range map[int]bool{0x2f: false, 0x30: true, 0x31: true, 0x38: true, 0x39: true, 0x3a: false} {
		if utf.Digit(c) != want {
			t.Errorf("Digit(%x): %t", c, !want)
		}
	}
}

// P4.2: all numbers in the ranges, and all between and beside them.
func TestClasses(t *testing.T) {
	for c := -0x500; c < 0x20000; c++ {
		letter, digit := false, false
		for _, r := range letters {
			letter = letter || c >= r[0] && c <= r[1]
		}
		for _, r := range digits {
			digit = digit || c >= r[0] && c <= r[1]
		}
		if utf.Letter(c) != letter {
			t.Errorf("Letter(%x): %t", c, !letter)
		}
		if utf.Digit(c) != digit {
			t.Errorf("Digit(%x): %t", c, !digit)
		}
	}
	for _, c := range far {
		if utf.Letter(c) || utf.Digit(c) {
			t.Errorf("Letter(%x): %t, Digit: %t", c, utf.Letter(c), utf.Digit(c))
		}
	}
}

// P4.2: what is added in each range, at its ends and beside them, and nothing elsewhere.
func TestSmall(t *testing.T) {
	for c, want := range map[int]int{
		0x40: 0x40, 0x41: 0x61, 0x5a: 0x7a, 0x5b: 0x5b, 0x61: 0x61, 0x7a: 0x7a, '5': '5',
		0xbf: 0xbf, 0xc0: 0xe0, 0xc4: 0xe4, 0xd6: 0xf6, 0xd7: 0xd7, 0xd8: 0xf8, 0xde: 0xfe, 0xdf: 0xdf, 0xe0: 0xe0, 0xf7: 0xf7, 0xff: 0xff,
		0x390: 0x390, 0x391: 0x3b1, 0x3a1: 0x3c1, 0x3a2: 0x3a2, 0x3a3: 0x3c3, 0x3a9: 0x3c9, 0x3aa: 0x3aa, 0x3c2: 0x3c2,
		0x3ff: 0x3ff, 0x400: 0x450, 0x401: 0x451, 0x40f: 0x45f, 0x410: 0x430, 0x42f: 0x44f, 0x430: 0x430, 0x450: 0x450, 0x45f: 0x45f, 0x460: 0x460,
	} {
		if got := utf.Small(c); got != want {
			t.Errorf("Small(%x): %x", c, got)
		}
	}
	for c := -0x500; c < 0x20000; c++ {
		want := c
		for _, r := range capitals {
			if c >= r[0] && c <= r[1] {
				want += r[2]
			}
		}
		if got := utf.Small(c); got != want {
			t.Errorf("Small(%x): %x", c, got)
		}
	}
	for _, c := range far {
		if got := utf.Small(c); got != c {
			t.Errorf("Small(%x): %x", c, got)
		}
	}
}

// P4.2: what is a letter here has the library's lowercase form.
func TestSmallReference(t *testing.T) {
	n := 0
	for c := range 0x500 {
		if !utf.Letter(c) {
			continue
		}
		n++
		if got, want := utf.Small(c), int(unicode.ToLower(rune(c))); got != want || !unicode.IsLetter(rune(c)) {
			t.Errorf("Small(%x): %x", c, got)
		}
	}
	if n != 26+26+23+31+8+17+7+25+96 {
		t.Errorf("%d letters", n)
	}
}

// P4.5: the lowercase form of a letter is a letter and its own lowercase form.
func TestSmallTwice(t *testing.T) {
	for c := range 0x500 {
		s := utf.Small(c)
		if utf.Letter(c) && (!utf.Letter(s) || utf.Small(s) != s) {
			t.Errorf("%x: its lowercase form is %x, and of that %x", c, s, utf.Small(s))
		}
	}
}
