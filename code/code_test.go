package code_test

import (
	"bytes"
	"encoding/binary"
	"math"
	"strings"
	"testing"

	"rubrick/api"
	"rubrick/code"
)

// numbers are encodings of numbers, of every length.
var numbers = []struct {
	v    int
	want string
}{
	{0, "\x00"},
	{1, "\x01"},
	{64, "\x40"},
	{127, "\x7f"},
	{128, "\x80\x01"},
	{129, "\x81\x01"},
	{255, "\xff\x01"},
	{256, "\x80\x02"},
	{300, "\xac\x02"},
	{1<<14 - 1, "\xff\x7f"},
	{1 << 14, "\x80\x80\x01"},
	{1<<21 - 1, "\xff\xff\x7f"},
	{1 << 21, "\x80\x80\x80\x01"},
	{1<<28 - 1, "\xff\xff\xff\x7f"},
	{1 << 28, "\x80\x80\x80\x80\x01"},
	{1 << 32, "\x80\x80\x80\x80\x10"},
	{1<<35 - 1, "\xff\xff\xff\xff\x7f"},
	{1 << 35, "\x80\x80\x80\x80\x80\x01"},
	{1<<42 - 1, "\xff\xff\xff\xff\xff\x7f"},
	{1 << 42, "\x80\x80\x80\x80\x80\x80\x01"},
	{1<<49 - 1, "\xff\xff\xff\xff\xff\xff\x7f"},
	{1 << 49, "\x80\x80\x80\x80\x80\x80\x80\x01"},
	{1<<56 - 1, "\xff\xff\xff\xff\xff\xff\xff\x7f"},
	{1 << 56, "\x80\x80\x80\x80\x80\x80\x80\x80\x01"},
	{1<<62 - 1, "\xff\xff\xff\xff\xff\xff\xff\xff\x3f"},
	{1 << 62, "\x80\x80\x80\x80\x80\x80\x80\x80\x40"},
}

// texts are strings of which the number of bytes has one to three groups, and of any bytes.
func texts() []string {
	l := []string{"", "hay", "\x00", "\xff\xfe", "wäin", "a\x80\x00b"}
	for _, n := range []int{1, 2, 126, 127, 128, 129, 300, 1<<14 - 1, 1 << 14} {
		l = append(l, strings.Repeat("h\xff\x80", n)[:n])
	}
	return l
}

// lists are lists of which the number of strings has one or two groups.
func lists() [][]string {
	l := [][]string{nil, {}, {""}, {"hay"}, {"", "wain"}, {"wain", "", "hay", "hay"}, texts()}
	for _, n := range []int{127, 128, 300} {
		l = append(l, make([]string, n))
	}
	return l
}

// fronts are bytes that encodings are put behind.
func fronts() [][]byte {
	return [][]byte{nil, {}, {9}, {0x80}, {0xff, 0, 1}, bytes.Repeat([]byte{7}, 100)}
}

// encodedText returns the encoding of s, by the library's numbers.
func encodedText(s string) string {
	return string(binary.AppendUvarint(nil, uint64(len(s)))) + s
}

// encodedList returns the encoding of l, by the library's numbers.
func encodedList(l []string) string {
	out := string(binary.AppendUvarint(nil, uint64(len(l))))
	for _, s := range l {
		out += encodedText(s)
	}
	return out
}

// P2.1: numbers of all lengths, from 0 to MaxNum, behind any bytes.
func TestNum(t *testing.T) {
	for _, c := range numbers {
		for _, b := range fronts() {
			if got, e := code.Num(b, c.v); string(got) != string(b)+c.want || e != api.OK {
				t.Errorf("Num(%x, %d): %x, %d", b, c.v, got, e)
			}
		}
	}
}

// P2.1: numbers around all powers of two, against the library's encoding of numbers.
func TestNumReference(t *testing.T) {
	for p := range 63 {
		for near := -3; near <= 3; near++ {
			v := 1<<p + near
			if v < 0 || v > api.MaxNum {
				continue
			}
			want := binary.AppendUvarint(nil, uint64(v))
			if got, e := code.Num(nil, v); !bytes.Equal(got, want) || e != api.OK {
				t.Errorf("Num(%d): %x, %d, want %x", v, got, e, want)
			}
		}
	}
}

// P2.1 and R2: what is below 0 or above MaxNum is ErrArg, with no bytes.
func TestNumWrong(t *testing.T) {
	for _, v := range []int{-1, -2, -127, -128, -300, -api.MaxNum, math.MinInt, math.MinInt + 1, api.MaxNum + 1, api.MaxNum + 2, math.MaxInt - 1, math.MaxInt} {
		for _, b := range fronts() {
			if got, e := code.Num(b, v); len(got) != 0 || e != api.ErrArg {
				t.Errorf("Num(%x, %d): %x, %d", b, v, got, e)
			}
		}
	}
}

// P2.1: strings of any bytes, behind any bytes.
func TestText(t *testing.T) {
	for _, c := range []struct{ s, want string }{
		{"", "\x00"},
		{"hay", "\x03hay"},
		{"\x80\x00", "\x02\x80\x00"},
		{"wäin", "\x05w\xc3\xa4in"},
		{strings.Repeat("x", 127), "\x7f" + strings.Repeat("x", 127)},
		{strings.Repeat("x", 128), "\x80\x01" + strings.Repeat("x", 128)},
	} {
		if got := code.Text(nil, c.s); string(got) != c.want {
			t.Errorf("Text(%q): %q", c.s, got)
		}
	}
	for _, s := range texts() {
		for _, b := range fronts() {
			if got := code.Text(b, s); string(got) != string(b)+encodedText(s) {
				t.Errorf("Text(%x, string of %d bytes): %x", b, len(s), got)
			}
		}
	}
}

// P2.1: lists of any length, behind any bytes.
func TestList(t *testing.T) {
	for _, c := range []struct {
		l    []string
		want string
	}{
		{nil, "\x00"},
		{[]string{}, "\x00"},
		{[]string{""}, "\x01\x00"},
		{[]string{"", "wain"}, "\x02\x00\x04wain"},
		{[]string{"b", "a", "a"}, "\x03\x01b\x01a\x01a"},
		{make([]string, 128), "\x80\x01" + strings.Repeat("\x00", 128)},
	} {
		if got := code.List(nil, c.l); string(got) != c.want {
			t.Errorf("List(%q): %q", c.l, got)
		}
	}
	for _, l := range lists() {
		for _, b := range fronts() {
			if got := code.List(b, l); string(got) != string(b)+encodedList(l) {
				t.Errorf("List(%x, %d strings): %x", b, len(l), got)
			}
		}
	}
}

// R3: what is written goes neither to the argument nor to its spare capacity, and results share no memory.
func TestWriteMemory(t *testing.T) {
	for name, put := range map[string]func(b []byte) []byte{
		"Num":  func(b []byte) []byte { out, _ := code.Num(b, 300); return out },
		"Text": func(b []byte) []byte { return code.Text(b, "wain") },
		"List": func(b []byte) []byte { return code.List(b, []string{"ox", ""}) },
	} {
		for n := range 20 {
			wide := bytes.Repeat([]byte{5}, 100)
			got, other := put(wide[:n]), put(wide[:n])
			want := string(got)
			if !bytes.Equal(wide, bytes.Repeat([]byte{5}, 100)) {
				t.Fatalf("%s behind %d bytes: the argument was modified", name, n)
			}
			clear(wide)
			clear(other[:cap(other)])
			if string(got) != want {
				t.Errorf("%s behind %d bytes: the result shares memory", name, n)
			}
		}
	}
	l := []string{"hay", "wain"}
	code.List(nil, l)
	if l[0] != "hay" || l[1] != "wain" {
		t.Errorf("List modified its argument: %q", l)
	}
}
