package code_test

import (
	"bytes"
	"encoding/binary"
	"math"
	"slices"
	"strings"
	"testing"

	"rubrick/api"
	"rubrick/code"
)

const most = math.MaxInt

// reading is a call that reads: its name, and whether its other result is zero.
type reading struct {
	name string
	call func(r code.Reader) (after code.Reader, zero bool)
}

// readings are all calls that read, the ones with limits also with limits that allow nothing.
func readings() []reading {
	l := []reading{
		{"ReadNum", func(r code.Reader) (code.Reader, bool) {
			after, v := code.ReadNum(r)
			return after, v == 0
		}},
		{"ReadDigest", func(r code.Reader) (code.Reader, bool) {
			after, d := code.ReadDigest(r)
			return after, d == ""
		}},
	}
	for _, limit := range []int{math.MinInt, -1, 0, 3, most} {
		l = append(l, reading{"ReadText", func(r code.Reader) (code.Reader, bool) {
			after, s := code.ReadText(r, limit)
			return after, s == ""
		}}, reading{"ReadList", func(r code.Reader) (code.Reader, bool) {
			after, s := code.ReadList(r, limit, most)
			return after, len(s) == 0
		}}, reading{"ReadList", func(r code.Reader) (code.Reader, bool) {
			after, s := code.ReadList(r, most, limit)
			return after, len(s) == 0
		}})
	}
	return l
}

// same reports whether two readers are equal, where nil and empty slices are.
func same(a, b code.Reader) bool {
	return bytes.Equal(a.B, b.B) && a.At == b.At && a.E == b.E
}

// at returns a reader of bytes that are preceded by some and followed by others, and what it is after size bytes.
func at(front, b, back string, size int) (code.Reader, code.Reader) {
	whole := []byte(front + b + back)
	return code.Reader{B: whole, At: len(front)}, code.Reader{B: whole, At: len(front) + size}
}

// wrong returns what a reader is after the error e.
func wrong(r code.Reader, e api.Errno) code.Reader {
	r.E = e
	return r
}

// surroundings are bytes before and after those that are read.
func surroundings() [][2]string {
	return [][2]string{{"", ""}, {"\x81", ""}, {"", "\x00"}, {"ab", "\xff\x80"}, {"\x00", strings.Repeat("\xff", 40)}}
}

// P2.2 and P2.4: numbers of all lengths, whatever stands around them.
func TestReadNum(t *testing.T) {
	for _, c := range numbers {
		for _, x := range surroundings() {
			r, want := at(x[0], c.want, x[1], len(c.want))
			if got, v := code.ReadNum(r); !same(got, want) || v != c.v {
				t.Errorf("ReadNum(%+v): %+v, %d, want %d", r, got, v, c.v)
			}
		}
	}
}

// P2.2: the errors of numbers, in their order; the reader stays where it was.
func TestReadNumWrong(t *testing.T) {
	for _, c := range []struct {
		b string
		e api.Errno
	}{
		{"", api.ErrMore},
		{"\x80", api.ErrMore},
		{"\xff", api.ErrMore},
		{"\x80\x80", api.ErrMore},
		{strings.Repeat("\x80", 8), api.ErrMore},
		{strings.Repeat("\xff", 8), api.ErrMore},
		{strings.Repeat("\x80", 9), api.ErrForm},
		{strings.Repeat("\xff", 9), api.ErrForm},
		{strings.Repeat("\x80", 10), api.ErrForm},
		{strings.Repeat("\x80", 9) + "\x01", api.ErrForm},
		{strings.Repeat("\x80", 9) + "\x00", api.ErrForm},
		{strings.Repeat("\xff", 30), api.ErrForm},
		{"\x80\x00", api.ErrForm},
		{"\xff\x00", api.ErrForm},
		{"\x80\x80\x00", api.ErrForm},
		{"\xac\x82\x00", api.ErrForm},
		{strings.Repeat("\x80", 7) + "\x00", api.ErrForm},
		{strings.Repeat("\x80", 8) + "\x00", api.ErrForm},
		{strings.Repeat("\xff", 8) + "\x00", api.ErrForm},
		{"\x81" + strings.Repeat("\x80", 7) + "\x40", api.ErrForm},
		{strings.Repeat("\x80", 7) + "\x81\x40", api.ErrForm},
		{strings.Repeat("\xff", 8) + "\x40", api.ErrForm},
		{strings.Repeat("\x80", 8) + "\x41", api.ErrForm},
		{strings.Repeat("\x80", 8) + "\x7f", api.ErrForm},
		{strings.Repeat("\xff", 8) + "\x7f", api.ErrForm},
	} {
		for _, front := range []string{"", "\x00", "\x80", "hay"} {
			r, _ := at(front, c.b, "", 0)
			if got, v := code.ReadNum(r); !same(got, wrong(r, c.e)) || v != 0 {
				t.Errorf("ReadNum(%+v): %+v, %d, want error %d", r, got, v, c.e)
			}
		}
	}
}

// expectedNum returns what ReadNum makes of b: the number, its bytes and the error, in the words of P2.2.
func expectedNum(b []byte) (int, int, api.Errno) {
	last := slices.IndexFunc(b, func(c byte) bool { return c < 128 })
	if last > 8 || last < 0 && len(b) >= 9 {
		return 0, 0, api.ErrForm
	}
	if last < 0 {
		return 0, 0, api.ErrMore
	}
	v, size := binary.Uvarint(b)
	if size != last+1 || v > api.MaxNum || !bytes.Equal(binary.AppendUvarint(nil, v), b[:size]) {
		return 0, 0, api.ErrForm
	}
	return int(v), size, api.OK
}

// P2.2 and P2.4: all byte strings of up to two bytes, and all of up to ten bytes of which each is one at an edge.
func TestReadNumAll(t *testing.T) {
	check := func(b []byte) {
		v, size, e := expectedNum(b)
		got, w := code.ReadNum(code.Reader{B: b})
		if got.At != size || got.E != e || w != v {
			t.Fatalf("ReadNum(%x): %+v, %d, want %d, %d, %d", b, got, w, size, e, v)
		}
	}
	for i := range 256 {
		check([]byte{byte(i)})
		for j := range 256 {
			check([]byte{byte(i), byte(j)})
		}
	}
	var grow func(b []byte)
	grow = func(b []byte) {
		check(b)
		if len(b) == 10 {
			return
		}
		for _, c := range []byte{0x80, 0xff} {
			grow(append(b, c))
		}
		for _, c := range []byte{0, 1, 0x3f, 0x40, 0x41, 0x7f} {
			check(append(b, c))
			check(append(b, c, 0x80))
		}
	}
	grow(make([]byte, 0, 12))
}

// P2.2 and P2.4: strings, whatever stands around them, up to the limit.
func TestReadText(t *testing.T) {
	for _, s := range texts() {
		for _, x := range surroundings() {
			b := string(code.Text(nil, s))
			r, want := at(x[0], b, x[1], len(b))
			for _, limit := range []int{len(s), len(s) + 1, api.MaxNum, most} {
				if got, v := code.ReadText(r, limit); !same(got, want) || v != s {
					t.Errorf("ReadText of %d bytes at %d, %d: at %d, error %d, %d bytes", len(s), r.At, limit, got.At, got.E, len(v))
				}
			}
			for _, limit := range []int{len(s) - 1, -1, math.MinInt} {
				if got, v := code.ReadText(r, limit); !same(got, wrong(r, api.ErrForm)) || v != "" {
					t.Errorf("ReadText of %d bytes at %d, %d: at %d, error %d, %d bytes", len(s), r.At, limit, got.At, got.E, len(v))
				}
			}
		}
	}
}

// P2.2 and R2: the errors of strings, in their order: of the number, of the limit, of the bytes that are left.
func TestReadTextWrong(t *testing.T) {
	greatest := strings.Repeat("\x80", 8) + "\x40"
	for _, c := range []struct {
		b     string
		limit int
		e     api.Errno
	}{
		{"", 3, api.ErrMore},
		{"", -1, api.ErrMore},
		{"\x80", 3, api.ErrMore},
		{"\x80", -1, api.ErrMore},
		{"\x80\x00", 3, api.ErrForm},
		{strings.Repeat("\x80", 9), most, api.ErrForm},
		{strings.Repeat("\x80", 8) + "\x41", most, api.ErrForm},
		{"\x03", 3, api.ErrMore},
		{"\x03ha", 3, api.ErrMore},
		{"\x03ha", most, api.ErrMore},
		{"\x03ha", 2, api.ErrForm},
		{"\x03ha", 0, api.ErrForm},
		{"\x03ha", -1, api.ErrForm},
		{"\x03hay", 2, api.ErrForm},
		{"\x03hay", -1, api.ErrForm},
		{"\x01", 0, api.ErrForm},
		{"\x00", -1, api.ErrForm},
		{"\x00", math.MinInt, api.ErrForm},
		{greatest, most, api.ErrMore},
		{greatest + "hay", api.MaxNum, api.ErrMore},
		{greatest + "hay", api.MaxNum - 1, api.ErrForm},
		{"\x80\x01" + strings.Repeat("x", 127), 128, api.ErrMore},
		{"\x80\x01" + strings.Repeat("x", 128), 127, api.ErrForm},
	} {
		for _, front := range []string{"", "\x00", "\x03hay"} {
			r, _ := at(front, c.b, "", 0)
			if got, v := code.ReadText(r, c.limit); !same(got, wrong(r, c.e)) || v != "" {
				t.Errorf("ReadText(%+v, %d): %+v, %q, want error %d", r, c.limit, got, v, c.e)
			}
		}
	}
}

// longest returns the number of bytes of the longest string of l.
func longest(l []string) int {
	n := 0
	for _, s := range l {
		n = max(n, len(s))
	}
	return n
}

// P2.2 and P2.4: lists, whatever stands around them, up to both limits.
func TestReadList(t *testing.T) {
	for _, l := range lists() {
		for _, x := range surroundings() {
			b := string(code.List(nil, l))
			r, want := at(x[0], b, x[1], len(b))
			for _, limits := range [][2]int{{len(l), longest(l)}, {len(l) + 1, longest(l) + 1}, {most, most}} {
				if got, v := code.ReadList(r, limits[0], limits[1]); !same(got, want) || !slices.Equal(v, l) {
					t.Errorf("ReadList of %d strings at %d, %d: at %d, error %d, %d strings", len(l), r.At, limits, got.At, got.E, len(v))
				}
			}
			for _, limits := range [][2]int{{len(l) - 1, most}, {-1, most}, {math.MinInt, most}, {-1, -1}} {
				if got, v := code.ReadList(r, limits[0], limits[1]); !same(got, wrong(r, api.ErrForm)) || len(v) != 0 {
					t.Errorf("ReadList of %d strings at %d, %d: at %d, error %d, %d strings", len(l), r.At, limits, got.At, got.E, len(v))
				}
			}
			if len(l) == 0 {
				continue
			}
			for _, limit := range []int{longest(l) - 1, -1, math.MinInt} {
				if got, v := code.ReadList(r, most, limit); !same(got, wrong(r, api.ErrForm)) || len(v) != 0 {
					t.Errorf("ReadList of %d strings at %d, %d: at %d, error %d, %d strings", len(l), r.At, limit, got.At, got.E, len(v))
				}
			}
		}
	}
}

// P2.2 and R2: the errors of lists, in their order: of the number, of the limit, of the first string that is wrong.
func TestReadListWrong(t *testing.T) {
	greatest := strings.Repeat("\x80", 8) + "\x40"
	for _, c := range []struct {
		b          string
		many, most int
		e          api.Errno
	}{
		{"", 3, 3, api.ErrMore},
		{"", -1, -1, api.ErrMore},
		{"\x80", -1, 3, api.ErrMore},
		{"\x80\x00", 3, 3, api.ErrForm},
		{strings.Repeat("\xff", 9), most, most, api.ErrForm},
		{"\x00", -1, 3, api.ErrForm},
		{"\x00", math.MinInt, 3, api.ErrForm},
		{"\x01", 0, 3, api.ErrForm},
		{"\x02", 1, 3, api.ErrForm},
		{"\x02", 2, 3, api.ErrMore},
		{"\x01", 1, -1, api.ErrMore},
		{"\x01\x00", 1, -1, api.ErrForm},
		{"\x02\x01a", 2, 3, api.ErrMore},
		{"\x02\x01a\x01", 2, 3, api.ErrMore},
		{"\x02\x01a\x80", 2, 3, api.ErrMore},
		{"\x02\x01a\x80\x00", 2, 3, api.ErrForm},
		{"\x02\x01a\x04", 2, 3, api.ErrForm},
		{"\x02\x04a", 2, 3, api.ErrForm},
		{"\x02\x03ab", 2, 3, api.ErrMore},
		{"\x03\x03abc\x04abcd", 3, 3, api.ErrForm},
		{greatest, most, most, api.ErrMore},
		{greatest + "\x00\x00", api.MaxNum, most, api.ErrMore},
		{greatest + "\x00\x00", api.MaxNum - 1, most, api.ErrForm},
		{greatest + "\x00\x01", api.MaxNum, 0, api.ErrForm},
		{"\x80\x01" + strings.Repeat("\x00", 127), 128, 0, api.ErrMore},
		{"\x80\x01" + strings.Repeat("\x00", 128), 127, 0, api.ErrForm},
	} {
		for _, front := range []string{"", "\x00", "\x01\x00"} {
			r, _ := at(front, c.b, "", 0)
			if got, v := code.ReadList(r, c.many, c.most); !same(got, wrong(r, c.e)) || len(v) != 0 {
				t.Errorf("ReadList(%+v, %d, %d): %+v, %q, want error %d", r, c.many, c.most, got, v, c.e)
			}
		}
	}
}

// P2.2: a digest is the next 32 bytes, if that many are left.
func TestReadDigest(t *testing.T) {
	d := strings.Repeat("\x00\xff\x80a", 8)
	for _, x := range surroundings() {
		r, want := at(x[0], d, x[1], len(d))
		if got, v := code.ReadDigest(r); !same(got, want) || v != d {
			t.Errorf("ReadDigest(%+v): %+v, %x", r, got, v)
		}
		for n := range api.DigestLen {
			r, _ := at(x[0], d[:n], "", 0)
			if got, v := code.ReadDigest(r); !same(got, wrong(r, api.ErrMore)) || v != "" {
				t.Errorf("ReadDigest(%+v): %+v, %x", r, got, v)
			}
		}
	}
}

// P2.2 and R1: a reader with an error, or with At out of range, is not read from.
func TestNothingRead(t *testing.T) {
	b := bytes.Repeat([]byte{1}, 70)
	out := []int{-1, -2, math.MinInt, len(b) + 1, len(b) + 2, math.MaxInt}
	errors := []api.Errno{api.ErrArg, api.ErrForm, api.ErrFull, api.ErrMore, api.ErrNone, api.ErrProof, api.ErrState, api.ErrDeep, api.ErrNot, -1, 10, math.MinInt, math.MaxInt}
	for _, f := range readings() {
		for _, i := range out {
			for _, bytes := range [][]byte{b, b[:0], nil} {
				r := code.Reader{B: bytes, At: i}
				if got, zero := f.call(r); !same(got, wrong(r, api.ErrArg)) || !zero {
					t.Errorf("%s at %d of %d: %+v", f.name, i, len(bytes), got)
				}
			}
		}
		for _, e := range errors {
			for _, i := range append(out, 0, 1, 35, 69, 70) {
				r := code.Reader{B: b, At: i, E: e}
				if got, zero := f.call(r); !same(got, r) || !zero {
					t.Errorf("%s at %d with error %d: %+v", f.name, i, e, got)
				}
			}
		}
		for n := range 3 {
			r := code.Reader{B: b[:n], At: n}
			if got, zero := f.call(r); !same(got, wrong(r, api.ErrMore)) || !zero {
				t.Errorf("%s at the end of %d bytes: %+v", f.name, n, got)
			}
		}
	}
}

// P2.2: what is read after an error is nothing, and the first error stays.
func TestFirstErrorStays(t *testing.T) {
	r := code.Reader{B: []byte("\x80\x00\x03hay")}
	after, _ := code.ReadNum(r)
	for _, f := range readings() {
		next, zero := f.call(after)
		if !same(next, wrong(r, api.ErrForm)) || !zero {
			t.Errorf("%s after an error: %+v", f.name, next)
		}
		if e := code.Done(next); e != api.ErrForm {
			t.Errorf("Done after an error: %d", e)
		}
	}
}

// P2.3: the error that has occurred, At out of range, bytes that are left, or OK.
func TestDone(t *testing.T) {
	for _, c := range []struct {
		r    code.Reader
		want api.Errno
	}{
		{code.Reader{}, api.OK},
		{code.Reader{B: []byte{}}, api.OK},
		{code.Reader{B: []byte("hay"), At: 3}, api.OK},
		{code.Reader{B: []byte("hay")}, api.ErrForm},
		{code.Reader{B: []byte("hay"), At: 2}, api.ErrForm},
		{code.Reader{B: []byte("hay"), At: 4}, api.ErrArg},
		{code.Reader{B: []byte("hay"), At: -1}, api.ErrArg},
		{code.Reader{B: make([]byte, 3, 9), At: 4}, api.ErrArg},
		{code.Reader{At: 1}, api.ErrArg},
		{code.Reader{At: -1}, api.ErrArg},
		{code.Reader{B: []byte("hay"), At: math.MinInt}, api.ErrArg},
		{code.Reader{B: []byte("hay"), At: math.MaxInt}, api.ErrArg},
		{code.Reader{B: []byte("hay"), At: 3, E: api.ErrMore}, api.ErrMore},
		{code.Reader{B: []byte("hay"), At: 1, E: api.ErrProof}, api.ErrProof},
		{code.Reader{B: []byte("hay"), At: -1, E: api.ErrForm}, api.ErrForm},
		{code.Reader{B: []byte("hay"), At: 4, E: api.ErrNot}, api.ErrNot},
		{code.Reader{E: -7}, -7},
		{code.Reader{At: 5, E: 77}, 77},
	} {
		if got := code.Done(c.r); got != c.want {
			t.Errorf("Done(%+v): %d, want %d", c.r, got, c.want)
		}
	}
}

// P2.4: what was written one after the other is read one after the other, up to the end.
func TestReadingWhatWasWritten(t *testing.T) {
	for _, c := range numbers {
		for _, s := range texts() {
			for _, l := range lists() {
				d := strings.Repeat("\x80", api.DigestLen)
				b, _ := code.Num(nil, c.v)
				b = append(code.List(code.Text(b, s), l), d...)
				r, v := code.ReadNum(code.Reader{B: b})
				r, text := code.ReadText(r, len(s))
				r, list := code.ReadList(r, len(l), longest(l))
				r, digest := code.ReadDigest(r)
				if v != c.v || text != s || !slices.Equal(list, l) || digest != d || code.Done(r) != api.OK {
					t.Fatalf("%d, string of %d bytes, %d strings: %d, %d, %d, error %d", c.v, len(s), len(l), v, len(text), len(list), code.Done(r))
				}
			}
		}
	}
}

// P2.4: what is read as a string or a list was written in exactly this way.
func TestOneWay(t *testing.T) {
	parts := []byte{0, 1, 2, 3, 0x80, 0x81, 'a'}
	var grow func(b []byte)
	grow = func(b []byte) {
		r := code.Reader{B: b}
		if after, v := code.ReadNum(r); after.E == api.OK {
			if again, _ := code.Num(nil, v); !bytes.Equal(again, b[:after.At]) {
				t.Errorf("%x is read as %d, which is written as %x", b, v, again)
			}
		}
		if after, s := code.ReadText(r, most); after.E == api.OK {
			if again := code.Text(nil, s); !bytes.Equal(again, b[:after.At]) {
				t.Errorf("%x is read as %q, which is written as %x", b, s, again)
			}
		}
		if after, l := code.ReadList(r, most, most); after.E == api.OK {
			if again := code.List(nil, l); !bytes.Equal(again, b[:after.At]) {
				t.Errorf("%x is read as %q, which is written as %x", b, l, again)
			}
		}
		if len(b) == 5 {
			return
		}
		for _, c := range parts {
			grow(append(b, c))
		}
	}
	grow(make([]byte, 0, 5))
}

// P2.5: no proper prefix of an encoding is read completely: the bytes end too soon.
func TestPrefixes(t *testing.T) {
	for _, c := range numbers {
		for n := range len(c.want) {
			r := code.Reader{B: []byte(c.want[:n])}
			if got, v := code.ReadNum(r); !same(got, wrong(r, api.ErrMore)) || v != 0 {
				t.Errorf("ReadNum of the first %d bytes of %x: %+v, %d", n, c.want, got, v)
			}
		}
	}
	for _, s := range texts()[:12] {
		b := code.Text(nil, s)
		for n := range b {
			r := code.Reader{B: b[:n]}
			if got, v := code.ReadText(r, most); !same(got, wrong(r, api.ErrMore)) || v != "" {
				t.Errorf("ReadText of the first %d bytes of %x: %+v, %q", n, b, got, v)
			}
		}
	}
	for _, l := range append(lists()[:6], make([]string, 128), texts()[:12]) {
		b := code.List(nil, l)
		for n := range b {
			r := code.Reader{B: b[:n]}
			if got, v := code.ReadList(r, most, most); !same(got, wrong(r, api.ErrMore)) || len(v) != 0 {
				t.Errorf("ReadList of the first %d bytes of %x: %+v, %q", n, b, got, v)
			}
		}
	}
}

// R1: the bytes behind the length of a slice are not read, even if it has capacity for them.
func TestCapacityIsNotRead(t *testing.T) {
	wide := []byte("\x03hay\x03hay")
	for n := range 4 {
		if got, s := code.ReadText(code.Reader{B: wide[:n]}, most); got.E != api.ErrMore || s != "" {
			t.Errorf("ReadText of %d bytes: %+v, %q", n, got, s)
		}
	}
	if got, d := code.ReadDigest(code.Reader{B: make([]byte, 31, 64)}); got.E != api.ErrMore || d != "" {
		t.Errorf("ReadDigest of 31 bytes: %+v, %x", got, d)
	}
}

// R3: reading leaves the bytes as they are, and neither the reader nor what was read shares memory with them.
func TestReadMemory(t *testing.T) {
	b := code.List(nil, []string{"hay", "wain", strings.Repeat("ox", 20)})
	for _, f := range readings() {
		for _, i := range []int{-1, 0, 1, len(b), len(b) + 1} {
			for _, e := range []api.Errno{api.OK, api.ErrMore} {
				wide := append(bytes.Clone(b), 0, 1, 2)
				kept := bytes.Clone(wide)
				got, _ := f.call(code.Reader{B: wide[:len(b)], At: i, E: e})
				if !bytes.Equal(wide, kept) {
					t.Fatalf("%s at %d: the argument was modified", f.name, i)
				}
				clear(wide)
				if !bytes.Equal(got.B, b) {
					t.Errorf("%s at %d: the reader shares memory with the argument", f.name, i)
				}
				clear(got.B[:cap(got.B)])
				copy(wide, kept)
				got, _ = f.call(code.Reader{B: wide[:len(b)], At: i, E: e})
				clear(got.B[:cap(got.B)])
				if !bytes.Equal(wide, kept) {
					t.Errorf("%s at %d: the argument was modified through the reader", f.name, i)
				}
			}
		}
	}
	_, s := code.ReadText(code.Reader{B: b, At: 1}, most)
	_, l := code.ReadList(code.Reader{B: b}, most, most)
	clear(b)
	if s != "hay" || l[0] != "hay" || l[1] != "wain" {
		t.Errorf("strings share memory with the argument: %q, %q", s, l)
	}
}

// R4: the same call yields the same result, whatever was read before.
func TestDeterminism(t *testing.T) {
	b := code.List(nil, texts())
	for range 3 {
		code.ReadNum(code.Reader{B: []byte{0xff}})
		if r, l := code.ReadList(code.Reader{B: b}, most, most); !slices.Equal(l, texts()) || code.Done(r) != api.OK {
			t.Fatal("ReadList differs from call to call")
		}
		if !bytes.Equal(b, code.List(nil, texts())) {
			t.Fatal("List differs from call to call")
		}
	}
}
