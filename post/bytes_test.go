package post_test

import (
	"crypto/sha256"
	"encoding/binary"
	"math/rand/v2"
	"slices"
	"strings"
	"testing"

	"rubrick/api"
	"rubrick/post"
	"rubrick/seal"
)

// P9.1: posting lists.
func TestRight(t *testing.T) {
	for _, l := range rightLists() {
		if !post.Right(l) {
			t.Errorf("Right(%v): false", l)
		}
	}
}

// P9.1 and R2: what is no posting list has neither an encoding nor a digest.
func TestWrongLists(t *testing.T) {
	for _, l := range wrongLists() {
		if post.Right(l) {
			t.Errorf("Right(%v): true", l)
		}
		if b, e := post.Write(l); len(b) != 0 || e != api.ErrArg {
			t.Errorf("Write(%v): %x, %d", l, b, e)
		}
		if d, e := post.Digest(l); d != "" || e != api.ErrArg {
			t.Errorf("Digest(%v): %x, %d", l, d, e)
		}
	}
}

// P9.1: a posting list is wrong as soon as any one of its elements is.
func TestRightEachElement(t *testing.T) {
	for _, l := range rightLists() {
		for i := range l {
			bads := []int{-1, api.MaxDocs}
			if i > 0 {
				bads = append(bads, l[i-1], l[i-1]-1)
			}
			for _, v := range bads {
				bad := slices.Clone(l)
				bad[i] = v
				if post.Right(bad) {
					t.Fatalf("Right(%v): true, with %d at %d", bad, v, i)
				}
			}
		}
	}
}

// P9.1: encodings that are written out.
func TestWriteExamples(t *testing.T) {
	for _, c := range []struct {
		l    []int
		want string
	}{
		{nil, "\x00"},
		{[]int{}, "\x00"},
		{[]int{0}, "\x01\x00"},
		{[]int{1}, "\x01\x01"},
		{[]int{127}, "\x01\x7f"},
		{[]int{128}, "\x01\x80\x01"},
		{[]int{999}, "\x01\xe7\x07"},
		{[]int{0, 3, 4}, "\x03\x00\x02\x00"},
		{[]int{0, 128}, "\x02\x00\x7f"},
		{[]int{0, 129}, "\x02\x00\x80\x01"},
		{[]int{0, 999}, "\x02\x00\xe6\x07"},
		{[]int{998, 999}, "\x02\xe6\x07\x00"},
		{upTo(0, 127, 1), "\x7f" + strings.Repeat("\x00", 127)},
		{upTo(1, 129, 1), "\x80\x01\x01" + strings.Repeat("\x00", 127)},
		{upTo(0, api.MaxDocs, 1), "\xe8\x07" + strings.Repeat("\x00", api.MaxDocs)},
		{upTo(1, api.MaxDocs, 2), "\xf4\x03" + strings.Repeat("\x01", api.MaxDocs/2)},
	} {
		if got, e := post.Write(c.l); string(got) != c.want || e != api.OK {
			t.Errorf("Write(%v): %x, %d", c.l, got, e)
		}
		if got, e := post.Read([]byte(c.want)); !slices.Equal(got, c.l) || e != api.OK {
			t.Errorf("Read(%x): %v, %d", c.want, got, e)
		}
	}
}

// P9.1: all posting lists, against the words and the library's numbers.
func TestWrite(t *testing.T) {
	for _, l := range rightLists() {
		if got, e := post.Write(l); string(got) != encoded(l) || e != api.OK {
			t.Errorf("Write(%v): %x, %d", l, got, e)
		}
	}
}

// P9.1: the digest is the seal of the encoding, also by the library's SHA-256.
func TestDigest(t *testing.T) {
	for _, l := range rightLists() {
		d, e := post.Digest(l)
		want := sha256.Sum256([]byte("\x02" + encoded(l)))
		if d != string(want[:]) || d != seal.Posts([]byte(encoded(l))) || e != api.OK {
			t.Errorf("Digest(%v): %x, %d", l, d, e)
		}
	}
}

// expectError tells if Read of s does not have the error e, without a list.
func expectError(t *testing.T, s string, e api.Errno) {
	t.Helper()
	if l, got := post.Read([]byte(s)); len(l) != 0 || got != e {
		t.Errorf("Read(%x): %v, %d, want %d", s, l, got, e)
	}
}

// P9.2: a number of elements that cannot be read, or is too great; what comes first counts.
func TestReadLength(t *testing.T) {
	for s, e := range map[string]api.Errno{
		"":                                     api.ErrMore,
		"\x80":                                 api.ErrMore,
		"\xe8":                                 api.ErrMore,
		strings.Repeat("\xff", 8):              api.ErrMore,
		strings.Repeat("\xff", 9):              api.ErrForm,
		strings.Repeat("\x80", 9) + "\x01":     api.ErrForm,
		"\x80\x00":                             api.ErrForm,
		"\x83\x00\x00\x02\x00":                 api.ErrForm,
		"\xe8\x87\x00":                         api.ErrForm,
		"\x01":                                 api.ErrMore,
		"\xe8\x07":                             api.ErrMore,
		"\xe9\x07":                             api.ErrForm,
		"\xe9\x07\x00":                         api.ErrForm,
		"\xe9\x07\x80":                         api.ErrForm,
		"\xe9\x07\x80\x00":                     api.ErrForm,
		numbers(2000):                          api.ErrForm,
		numbers(1 << 31):                       api.ErrForm,
		numbers(1 << 32):                       api.ErrForm,
		numbers(api.MaxNum):                    api.ErrForm,
		"\x81\x80\x80\x80\x80\x80\x80\x80@":    api.ErrForm, // MaxNum + 1
		"\x80\x80\x80\x80\x80\x80\x80\x80\x7f": api.ErrForm,
	} {
		expectError(t, s, e)
	}
	zeros := strings.Repeat("\x00", api.MaxDocs+1)
	expectError(t, numbers(api.MaxDocs+1)+zeros, api.ErrForm)
	expectError(t, numbers(api.MaxDocs)+zeros, api.ErrForm)
	expectError(t, numbers(api.MaxDocs)+zeros[2:], api.ErrMore)
	if l, e := post.Read([]byte(numbers(api.MaxDocs) + zeros[1:])); len(l) != api.MaxDocs || e != api.OK {
		t.Errorf("Read of all documents: %d of them, %d", len(l), e)
	}
}

// P9.2: an element that cannot be read, or is too great, and bytes after the last one; what comes first counts.
func TestReadElements(t *testing.T) {
	for s, e := range map[string]api.Errno{
		"\x01\x80":                         api.ErrMore,
		"\x01\xe8":                         api.ErrMore,
		"\x01\x80\x00":                     api.ErrForm,
		"\x01\xe7\x87\x00":                 api.ErrForm,
		"\x01" + strings.Repeat("\x80", 8): api.ErrMore,
		"\x01" + strings.Repeat("\x80", 9): api.ErrForm,
		"\x01" + strings.Repeat("\x80", 10) + "\x01": api.ErrForm,
		numbers(1, 1000):                               api.ErrForm,
		numbers(1, 1001):                               api.ErrForm,
		numbers(1, 1<<32):                              api.ErrForm,
		numbers(1, api.MaxNum-1):                       api.ErrForm,
		numbers(1, api.MaxNum):                         api.ErrForm,
		numbers(2, 0, api.MaxNum):                      api.ErrForm,
		numbers(2, 999, api.MaxNum):                    api.ErrForm,
		numbers(3, api.MaxNum, api.MaxNum, api.MaxNum): api.ErrForm,
		numbers(2, 0, 999):                             api.ErrForm,
		numbers(2, 998, 1):                             api.ErrForm,
		numbers(2, 999, 0):                             api.ErrForm,
		numbers(3, 0, 997, 1):                          api.ErrForm,
		numbers(2, 1000):                               api.ErrForm, // the element is too great before the bytes end
		numbers(2, 1000, 0):                            api.ErrForm,
		numbers(2, 1000) + "\x80":                      api.ErrForm,
		numbers(2, 999):                                api.ErrMore, // the bytes end before the element can be too great
		numbers(2, 999) + "\x80":                       api.ErrMore,
		numbers(2, 999) + "\x80\x00":                   api.ErrForm,
		numbers(2, 0) + "\x80":                         api.ErrMore,
		numbers(2, 0) + "\x80\x00":                     api.ErrForm,
		numbers(3, 0) + "\x80\x00":                     api.ErrForm,
		numbers(3, 0, 2):                               api.ErrMore,
		numbers(3, 0):                                  api.ErrMore,
		numbers(3):                                     api.ErrMore,
		numbers(0, 0):                                  api.ErrForm,
		numbers(0) + "\x80":                            api.ErrForm, // what is left is no number, but is not read
		numbers(0) + "\x80\x00":                        api.ErrForm,
		numbers(1, 5) + "\x80":                         api.ErrForm,
		numbers(1, 5, 0):                               api.ErrForm,
		numbers(1, 1000, 0):                            api.ErrForm,
		numbers(3, 0, 2, 0, 0):                         api.ErrForm,
		numbers(3, 0, 2, 0) + "\xff":                   api.ErrForm,
	} {
		expectError(t, s, e)
	}
}

// P9.2: in a list of MaxDocs elements one that is not the next number makes the last one too great, which is not so before it is read.
func TestReadFull(t *testing.T) {
	for _, at := range []int{1, 2, 500, 999, 1000} {
		l := make([]int, api.MaxDocs+1)
		l[0], l[at] = api.MaxDocs, 1
		b := numbers(l...)
		expectError(t, b, api.ErrForm)
		expectError(t, b+"\x80", api.ErrForm)
		if at < api.MaxDocs {
			expectError(t, b[:len(b)-1], api.ErrMore)
		}
	}
}

// P9.2: of a posting list's bytes, each that are too few are ErrMore, and each that are too many ErrForm.
func TestReadCut(t *testing.T) {
	for _, l := range rightLists() {
		b := encoded(l)
		for n := 0; n < len(b); n += 1 + len(b)/50 {
			expectError(t, b[:n], api.ErrMore)
		}
		expectError(t, b[:len(b)-1], api.ErrMore)
		for _, more := range []string{"\x00", "\x01", "\x80", "\xff", "\x00\x00\x00", b} {
			expectError(t, b+more, api.ErrForm)
		}
	}
}

// P9.2: bytes of many kinds, against the words.
func TestReadWords(t *testing.T) {
	const some = "\x00\x01\x02\x03\x07\x08\x80\xe6\xe7\xe8\xe9"
	var all func(s string, left int)
	all = func(s string, left int) {
		want, e := worded(s)
		if l, got := post.Read([]byte(s)); !slices.Equal(l, want) || got != e {
			t.Errorf("Read(%x): %v, %d, want %v, %d", s, l, got, want, e)
		}
		for i := 0; left > 0 && i < len(some); i++ {
			all(s+some[i:i+1], left-1)
		}
	}
	all("", 5)
}

// worded returns what Read returns for at most 8 bytes, as the words of P9.2 say it, by the library's numbers.
func worded(s string) ([]int, api.Errno) {
	length, s, e := nextNumber(s)
	if e == api.OK && length > 1000 {
		e = api.ErrForm
	}
	var l []int
	for len(l) < length && e == api.OK {
		var v int
		v, s, e = nextNumber(s)
		if len(l) > 0 {
			v += l[len(l)-1] + 1
		}
		if e == api.OK && v > 999 {
			e = api.ErrForm
		}
		l = append(l, v)
	}
	if e == api.OK && s != "" {
		e = api.ErrForm
	}
	if e != api.OK {
		return nil, e
	}
	return l, api.OK
}

// nextNumber returns the number that s begins with, and what follows it.
func nextNumber(s string) (int, string, api.Errno) {
	v, n := binary.Uvarint([]byte(s))
	switch {
	case n <= 0:
		return 0, "", api.ErrMore
	case numbers(int(v)) != s[:n]:
		return 0, "", api.ErrForm
	}
	return int(v), s[n:], api.OK
}

// P9.4: Read returns what Write has written.
func TestReadWritten(t *testing.T) {
	for _, l := range rightLists() {
		b, _ := post.Write(l)
		if got, e := post.Read(b); !slices.Equal(got, l) || e != api.OK {
			t.Errorf("Read of Write of %v: %v, %d", l, got, e)
		}
	}
}

// P9.4 and P9.5: what Read returns is a posting list, and Write writes it with the same bytes; so no bytes that differ give the same list.
func TestWriteRead(t *testing.T) {
	r := rand.New(rand.NewPCG(9, 2))
	lists := rightLists()
	read := 0
	for range 20000 {
		b := []byte(encoded(lists[r.IntN(30)]))
		for range r.IntN(4) {
			b = changed(r, b)
		}
		l, e := post.Read(b)
		if e != api.OK {
			continue
		}
		read++
		if back, e := post.Write(l); !post.Right(l) || string(back) != string(b) || e != api.OK {
			t.Fatalf("Write of Read of %x: %x, %d", b, back, e)
		}
	}
	if read < 2000 {
		t.Errorf("only %d could be read", read)
	}
}

// changed returns b with a byte that is other, more or less.
func changed(r *rand.Rand, b []byte) []byte {
	at := r.IntN(len(b) + 1)
	out := append([]byte{}, b[:at]...)
	if r.IntN(3) > 0 {
		out = append(out, byte(r.IntN(256)))
	}
	if at < len(b) && r.IntN(3) > 0 {
		at++
	}
	return append(out, b[at:]...)
}
