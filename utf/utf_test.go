package utf_test

import (
	"bytes"
	"math"
	"slices"
	"testing"
	"unicode/utf8"

	"rubrick/api"
	"rubrick/utf"
)

// encodings are characters and their encodings: the first and the last of each length, those beside the gap, and others.
var encodings = []struct {
	c    int
	want string
}{
	{0, "\x00"},
	{1, "\x01"},
	{0x41, "A"},
	{0x7e, "\x7e"},
	{0x7f, "\x7f"},
	{0x80, "\xc2\x80"},
	{0x81, "\xc2\x81"},
	{0xbf, "\xc2\xbf"},
	{0xc0, "\xc3\x80"},
	{0xe4, "\xc3\xa4"},
	{0x410, "\xd0\x90"},
	{0x7fe, "\xdf\xbe"},
	{0x7ff, "\xdf\xbf"},
	{0x800, "\xe0\xa0\x80"},
	{0x801, "\xe0\xa0\x81"},
	{0xfff, "\xe0\xbf\xbf"},
	{0x1000, "\xe1\x80\x80"},
	{0x20ac, "\xe2\x82\xac"},
	{55294, "\xed\x9f\xbe"},
	{55295, "\xed\x9f\xbf"},
	{57344, "\xee\x80\x80"},
	{57345, "\xee\x80\x81"},
	{utf.Bad, "\xef\xbf\xbd"},
	{0xfffe, "\xef\xbf\xbe"},
	{0xffff, "\xef\xbf\xbf"},
	{0x10000, "\xf0\x90\x80\x80"},
	{0x10001, "\xf0\x90\x80\x81"},
	{0x1f600, "\xf0\x9f\x98\x80"},
	{0x3ffff, "\xf0\xbf\xbf\xbf"},
	{0x40000, "\xf1\x80\x80\x80"},
	{0xfffff, "\xf3\xbf\xbf\xbf"},
	{0x100000, "\xf4\x80\x80\x80"},
	{1114110, "\xf4\x8f\xbf\xbe"},
	{1114111, "\xf4\x8f\xbf\xbf"},
}

// wrong are numbers that are no characters.
func wrong() []int {
	l := []int{-1, -2, -0x41, -127, -128, -129, -55296, -1114112, 55296, 55297, 56319, 56320, 57342, 57343, 1114112, 1114113, 0x13ffff, 0x1fffff, 0x200000, 0x3ffffff, math.MinInt, math.MinInt + 1, math.MinInt + 0x41, math.MaxInt - 1, math.MaxInt}
	for _, p := range []int{31, 32, 33, 40, 62} {
		l = append(l, 1<<p, 1<<p+0x41, 1<<p+0xe4, -1<<p, -1<<p+0x41)
	}
	return l
}

// edges are bytes at both ends of what each place of an encoding may hold, and beside them.
var edges = []byte{0x00, 0x41, 0x7f, 0x80, 0x8f, 0x90, 0x9f, 0xa0, 0xbf, 0xc0, 0xc1, 0xc2, 0xdf, 0xe0, 0xe1, 0xec, 0xed, 0xee, 0xef, 0xf0, 0xf1, 0xf3, 0xf4, 0xf5, 0xf7, 0xf8, 0xfb, 0xfc, 0xfe, 0xff}

// decoded returns the characters of b, by the library.
func decoded(b []byte) []int {
	var out []int
	for len(b) > 0 {
		r, n := utf8.DecodeRune(b)
		out = append(out, int(r))
		b = b[n:]
	}
	return out
}

// bad returns Bad n times.
func bad(n int) []int {
	return slices.Repeat([]int{utf.Bad}, n)
}

// checkDecode compares Decode with the library's decoding.
func checkDecode(t *testing.T, b []byte) {
	if got, want := utf.Decode(b), decoded(b); !slices.Equal(got, want) {
		t.Errorf("Decode(%x): %x, want %x", b, got, want)
	}
}

// P4.1: what is a character, and its encoding.
func TestEncode(t *testing.T) {
	for _, c := range encodings {
		if !utf.Right(c.c) {
			t.Errorf("Right(%x): false", c.c)
		}
		if b, e := utf.Encode(c.c); string(b) != c.want || e != api.OK {
			t.Errorf("Encode(%x): %x, %d", c.c, b, e)
		}
	}
}

// P4.1 and R2: what is no character is ErrArg, with no bytes.
func TestEncodeWrong(t *testing.T) {
	for _, c := range wrong() {
		if utf.Right(c) {
			t.Errorf("Right(%d): true", c)
		}
		if b, e := utf.Encode(c); len(b) != 0 || e != api.ErrArg {
			t.Errorf("Encode(%d): %x, %d", c, b, e)
		}
	}
}

// P4.1: all numbers that the first four bytes could hold, against the library.
func TestEncodeReference(t *testing.T) {
	for c := -300; c < 0x120000; c++ {
		right := c >= 0 && utf8.ValidRune(rune(c))
		if utf.Right(c) != right {
			t.Fatalf("Right(%d): %t", c, !right)
		}
		b, e := utf.Encode(c)
		if !right {
			if len(b) != 0 || e != api.ErrArg {
				t.Fatalf("Encode(%d): %x, %d", c, b, e)
			}
		} else if string(b) != string(rune(c)) || e != api.OK {
			t.Fatalf("Encode(%d): %x, %d", c, b, e)
		}
	}
}

// P4.1: encodings, alone, and with bytes of all kinds beside them.
func TestDecode(t *testing.T) {
	for _, c := range encodings {
		b := []byte(c.want)
		if got := utf.Decode(b); !slices.Equal(got, []int{c.c}) {
			t.Errorf("Decode(%x): %x", b, got)
		}
		if got := utf.Decode(slices.Concat([]byte("\xff"), b, []byte("\x80A"))); !slices.Equal(got, []int{utf.Bad, c.c, utf.Bad, 'A'}) {
			t.Errorf("Decode(ff, %x, 80, 41): %x", b, got)
		}
	}
}

// P4.1: bytes without a character among them, and characters beside such bytes.
func TestDecodeWrong(t *testing.T) {
	for s, want := range map[string][]int{
		"":                         {},
		"\xc3\xa4\xff\x41":         {0xe4, utf.Bad, 0x41},
		"\x80":                     bad(1),
		"\xbf\x80":                 bad(2),
		"\xf8\x88\x80\x80\x80":     bad(5),
		"\xfc\x84\x80\x80\x80\x80": bad(6),
		"\xfe\xff":                 bad(2),
		// cut off, at the end and ahead of others
		"\xc3":                         bad(1),
		"\xe2":                         bad(1),
		"\xe2\x82":                     bad(2),
		"\xf0":                         bad(1),
		"\xf0\x9f":                     bad(2),
		"\xf0\x9f\x98":                 bad(3),
		"\xc3A":                        {utf.Bad, 'A'},
		"\xc3\xc3\xa4":                 {utf.Bad, 0xe4},
		"\xe2\x82A":                    {utf.Bad, utf.Bad, 'A'},
		"\xe2\x82\xc3\xa4":             {utf.Bad, utf.Bad, 0xe4},
		"\xe2A\xac":                    {utf.Bad, 'A', utf.Bad},
		"\xf0\x9f\x98\xf0\x9f\x98\x80": {utf.Bad, utf.Bad, utf.Bad, 0x1f600},
		"\xf0\x9f\x98\xe2\x82\xac":     {utf.Bad, utf.Bad, utf.Bad, 0x20ac},
		"\xf0\x9fA\x98":                {utf.Bad, utf.Bad, 'A', utf.Bad},
		"\xf0A\x9f\x98":                {utf.Bad, 'A', utf.Bad, utf.Bad},
		// longer than need be
		"\xc0\x80":         bad(2),
		"\xc1\x81":         bad(2),
		"\xc1\xbf":         bad(2),
		"\xe0\x80\x80":     bad(3),
		"\xe0\x83\xa4":     bad(3),
		"\xe0\x9f\xbf":     bad(3),
		"\xf0\x80\x80\x80": bad(4),
		"\xf0\x82\x82\xac": bad(4),
		"\xf0\x8f\xbf\xbf": bad(4),
		// between characters
		"\xed\xa0\x80":             bad(3),
		"\xed\xaf\xbf":             bad(3),
		"\xed\xb0\x80":             bad(3),
		"\xed\xbf\xbf":             bad(3),
		"\xed\xa0\x80\xed\xb0\x80": bad(6),
		// above the characters
		"\xf4\x90\x80\x80": bad(4),
		"\xf5\x80\x80\x80": bad(4),
		"\xf7\xbf\xbf\xbf": bad(4),
		"\xf4\x90\x80A":    {utf.Bad, utf.Bad, utf.Bad, 'A'},
		// the encoding of Bad is one character
		"\xef\xbf\xbd\xff": bad(2),
	} {
		if got := utf.Decode([]byte(s)); !slices.Equal(got, want) {
			t.Errorf("Decode(%x): %x, want %x", s, got, want)
		}
	}
	if got := utf.Decode(nil); len(got) != 0 {
		t.Errorf("Decode of nil: %x", got)
	}
}

// P4.1: all strings of one and two bytes, and all of up to five whose bytes are edges, against the library.
func TestDecodeReference(t *testing.T) {
	for x := range 256 {
		checkDecode(t, []byte{byte(x)})
		for y := range 256 {
			checkDecode(t, []byte{byte(x), byte(y)})
			checkDecode(t, []byte{0xe0, byte(x), byte(y)})
			checkDecode(t, []byte{0xed, byte(x), byte(y)})
			checkDecode(t, []byte{0xf0, byte(x), 0x80, byte(y)})
			checkDecode(t, []byte{0xf4, byte(x), byte(y), 0xbf})
		}
	}
	all := [][]byte{nil}
	for range 4 {
		var longer [][]byte
		for _, b := range all {
			for _, x := range edges {
				longer = append(longer, append(slices.Clone(b), x))
			}
		}
		for _, b := range longer {
			checkDecode(t, b)
			checkDecode(t, append(b, 0x80))
		}
		all = longer
		if t.Failed() {
			return
		}
	}
}

// P4.3: the encodings of characters, one behind another, are decoded as these characters.
func TestDecodeEncoded(t *testing.T) {
	var all []byte
	var want []int
	for c := 0; c <= 1114111; c++ {
		b, e := utf.Encode(c)
		if e == api.OK {
			all = append(all, b...)
			want = append(want, c)
		}
	}
	if len(want) != 1114112-2048 {
		t.Fatalf("%d characters", len(want))
	}
	if !slices.Equal(utf.Decode(all), want) {
		t.Error("all characters, by rising number")
	}
	for _, x := range encodings {
		for _, y := range encodings {
			for _, z := range encodings {
				if got := utf.Decode([]byte(x.want + y.want + z.want)); !slices.Equal(got, []int{x.c, y.c, z.c}) {
					t.Fatalf("Decode(%x %x %x): %x", x.want, y.want, z.want, got)
				}
			}
		}
	}
}

// P4.4: bytes without Bad among their characters are the encodings of these, one behind another.
func TestEncodeDecoded(t *testing.T) {
	for _, x := range edges {
		for _, y := range edges {
			for _, z := range edges {
				for _, b := range [][]byte{{x, y, z}, {x, y, z, 0xbf}, {0xf1, x, y, z}, {'a', x, y, z, 'b'}} {
					l := utf.Decode(b)
					if slices.Contains(l, utf.Bad) {
						continue
					}
					var back []byte
					for _, c := range l {
						e, _ := utf.Encode(c)
						back = append(back, e...)
					}
					if !bytes.Equal(back, b) {
						t.Fatalf("%x: %x, encoded %x", b, l, back)
					}
				}
			}
		}
	}
}

// R3: arguments are not modified, and results are new memory, to their spare capacity.
func TestMemory(t *testing.T) {
	b := []byte("w\xc3\xa4in \xff\xf0\x9f\x98\x80 hay")
	kept := bytes.Clone(b)
	l := utf.Decode(b)
	want := slices.Clone(l)
	if !bytes.Equal(b, kept) {
		t.Errorf("Decode modified its argument: %x", b)
	}
	clear(b)
	if !slices.Equal(l, want) {
		t.Errorf("Decode retained its argument: %x", l)
	}
	clear(l[:cap(l)])
	if !slices.Equal(utf.Decode(kept), want) {
		t.Error("Decode's results share memory")
	}
	for _, c := range encodings {
		first, _ := utf.Encode(c.c)
		second, _ := utf.Encode(c.c)
		clear(first[:cap(first)])
		third, _ := utf.Encode(c.c)
		if string(second) != c.want || string(third) != c.want {
			t.Errorf("Encode(%x): results share memory", c.c)
		}
	}
}
