package sha_test

import (
	"encoding/hex"
	"strings"
	"testing"

	"rubrick/api"
	"rubrick/sha"
)

// everyByte returns a string of all 256 bytes in order.
func everyByte() string {
	b := make([]byte, 256)
	for i := range b {
		b[i] = byte(i)
	}
	return string(b)
}

// P1.2: Hex of strings of any length and any bytes.
func TestHex(t *testing.T) {
	for _, c := range []struct{ bytes, want string }{
		{"", ""},
		{"\x00", "00"},
		{"\xff", "ff"},
		{"\x0f\xf0", "0ff0"},
		{"abc", "616263"},
		{"\xba\x78\x16\xbf", "ba7816bf"},
		{"ä", "c3a4"},
		{everyByte(), hex.EncodeToString([]byte(everyByte()))},
	} {
		if got := sha.Hex(c.bytes); got != c.want {
			t.Errorf("Hex(%q): %s, want %s", c.bytes, got, c.want)
		}
	}
}

// P1.2: FromHex of what consists of an even number of digits.
func TestFromHex(t *testing.T) {
	for _, c := range []struct{ digits, want string }{
		{"", ""},
		{"00", "\x00"},
		{"09", "\x09"},
		{"90", "\x90"},
		{"af", "\xaf"},
		{"fa", "\xfa"},
		{"00ff", "\x00\xff"},
		{"0123456789abcdef", "\x01\x23\x45\x67\x89\xab\xcd\xef"},
	} {
		if got, e := sha.FromHex(c.digits); got != c.want || e != api.OK {
			t.Errorf("FromHex(%q): %q, %d", c.digits, got, e)
		}
	}
}

// P1.2 and R2: FromHex of anything else is ErrForm, with nothing.
func TestFromHexWrong(t *testing.T) {
	wrong := []string{"0", "f", "000", "00f", "g", strings.Repeat("a", 63), "AB", "aB", "Ab", "0x", "0x00", " 00", "00 ", "a b ", "ä", "+1", "-1", "\x00\x00", "00\n", "00\n\n"}
	for c := range 256 {
		if strings.IndexByte("0123456789abcdef", byte(c)) >= 0 {
			continue
		}
		x := string([]byte{byte(c)})
		wrong = append(wrong, x+"0", "0"+x, "00"+x+"0", "000"+x, x+"000", x+x)
	}
	for _, s := range wrong {
		if got, e := sha.FromHex(s); got != "" || e != api.ErrForm {
			t.Errorf("FromHex(%q): %q, %d", s, got, e)
		}
	}
}

// P1.4: FromHex undoes Hex, for any bytes.
func TestHexInverse(t *testing.T) {
	all := everyByte()
	for i := range 257 {
		for _, d := range []string{all[:i], all[i:]} {
			if got, e := sha.FromHex(sha.Hex(d)); got != d || e != api.OK {
				t.Errorf("FromHex(Hex(%x)): %x, %d", d, got, e)
			}
		}
	}
	d := sha.Sum([]byte("abc"))
	if got, e := sha.FromHex(sha.Hex(d)); got != d || e != api.OK {
		t.Errorf("FromHex(Hex(%x)): %x, %d", d, got, e)
	}
}

// P1.4: Hex undoes FromHex, for every text that FromHex takes.
func TestFromHexInverse(t *testing.T) {
	const digits = "0123456789abcdef"
	for i := range digits {
		for j := range digits {
			s := digits[i:i+1] + digits[j:j+1]
			s += "7e" + s
			d, e := sha.FromHex(s)
			if e != api.OK || sha.Hex(d) != s {
				t.Errorf("Hex(FromHex(%q)): %q, %d", s, sha.Hex(d), e)
			}
		}
	}
}
