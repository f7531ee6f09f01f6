package sha_test

import (
	"bytes"
	"crypto/sha256"
	"encoding"
	"encoding/binary"
	"strings"
	"testing"

	"rubrick/api"
	"rubrick/sha"
)

const mostLen = 1 << 40

// pattern returns n bytes of which no two blocks are alike.
func pattern(n int) []byte {
	b := make([]byte, n)
	for i := range b {
		b[i] = byte(131*i + i/64*17)
	}
	return b
}

// same reports whether two states are equal, where nil and empty slices are.
func same(a, b sha.State) bool {
	return a.H == b.H && a.N == b.N && bytes.Equal(a.Rest, b.Rest)
}

// reference returns what the library's SHA-256 makes of a state and bytes added to it.
func reference(t *testing.T, s sha.State, b []byte) string {
	t.Helper()
	saved := []byte("sha\x03")
	for _, w := range s.H {
		saved = binary.BigEndian.AppendUint32(saved, w)
	}
	saved = append(saved, s.Rest...)
	saved = append(saved, make([]byte, 64-len(s.Rest))...)
	saved = binary.BigEndian.AppendUint64(saved, uint64(s.N))
	h := sha256.New()
	if err := h.(encoding.BinaryUnmarshaler).UnmarshalBinary(saved); err != nil {
		t.Fatal(err)
	}
	h.Write(b)
	return string(h.Sum(nil))
}

// notValid returns states that the chapter calls not valid.
func notValid() []sha.State {
	h := [8]uint32{1, 2, 3, 4, 5, 6, 7, 8}
	return []sha.State{
		{N: 5},
		{H: h, N: 1},
		{H: h, Rest: []byte("a")},
		{H: h, Rest: []byte("abc"), N: 2},
		{H: h, Rest: []byte("abc"), N: 4},
		{H: h, Rest: pattern(64)},
		{H: h, Rest: pattern(64), N: 64},
		{H: h, Rest: pattern(65), N: 65},
		{H: h, Rest: pattern(200), N: 200},
		{H: h, N: -1},
		{H: h, N: -64},
		{H: h, Rest: pattern(63), N: -1},
		{H: h, Rest: pattern(1), N: -63},
		{H: h, N: -1 << 63},
		{H: h, Rest: pattern(1), N: mostLen + 1},
		{H: h, N: mostLen + 64},
		{H: h, Rest: pattern(63), N: 1<<63 - 1},
	}
}

// valid returns states that the chapter calls valid, of arbitrary words.
func valid() []sha.State {
	h := [8]uint32{0xffffffff, 0x80000000, 3, 0x7fffffff, 0, 0xdeadbeef, 7, 0x01020304}
	l := []sha.State{{}, {H: h}, {Rest: []byte{}}, {H: h, N: mostLen}, {H: h, N: mostLen - 64}}
	for n := range 200 {
		l = append(l, sha.State{H: h, Rest: pattern(n % 64), N: n})
	}
	for _, n := range []int{1<<32 - 1, 1<<32 + 55, 1<<32 + 56, 1<<29 + 3, mostLen - 1, mostLen - 8, mostLen - 9, mostLen - 63} {
		l = append(l, sha.State{H: h, Rest: pattern(n % 64), N: n})
	}
	return l
}

// P1.1: the digests that FIPS 180-4 and its examples publish.
func TestSumPublished(t *testing.T) {
	long := "abcdefghbcdefghicdefghijdefghijkefghijklfghijklmghijklmnhijklmnoijklmnopjklmnopqklmnopqrlmnopqrsmnopqrstnopqrstu"
	for _, c := range []struct{ text, want string }{
		{"", "e3b0c44298fc1c149afbf4c8996fb92427ae41e4649b934ca495991b7852b855"},
		{"abc", "ba7816bf8f01cfea414140de5dae2223b00361a396177a9cb410ff61f20015ad"},
		{"abcdbcdecdefdefgefghfghighijhijkijkljklmklmnlmnomnopnopq", "248d6a61d20638b8e5c026930c3e6039a33ce45964ff2167f6ecedd419db06c1"},
		{long, "cf5b16a778af8380036ce59e7b0492370b249b11e8f07a51afac45037afee9d1"},
		{strings.Repeat("a", 1000000), "cdc76e5c9914fb9281a1c7e284d73e67f1809a48a497200e046d39ccc7112cd0"},
	} {
		if got := sha.Hex(sha.Sum([]byte(c.text))); got != c.want {
			t.Errorf("Sum of %d bytes: %s, want %s", len(c.text), got, c.want)
		}
	}
	if sha.Sum(nil) != sha.Sum([]byte{}) {
		t.Error("Sum of nil and of no bytes differ")
	}
}

// P1.1: every length around the ends of blocks, against an implementation of its own.
func TestSumLengths(t *testing.T) {
	for n := range 400 {
		b := pattern(n)
		want := sha256.Sum256(b)
		if got := sha.Sum(b); got != string(want[:]) {
			t.Errorf("Sum of %d bytes: %x, want %x", n, got, want)
		}
	}
}

// P1.1: New is the state of FIPS 180-4, 5.3.3, with nothing added.
func TestNew(t *testing.T) {
	want := sha.State{H: [8]uint32{0x6a09e667, 0xbb67ae85, 0x3c6ef372, 0xa54ff53a, 0x510e527f, 0x9b05688c, 0x1f83d9ab, 0x5be0cd19}}
	if got := sha.New(); !same(got, want) {
		t.Errorf("New: %+v", got)
	}
	if sha.End(sha.New()) != sha.Sum(nil) {
		t.Error("End of New is not the digest of no bytes")
	}
}

// P1.1: what Add keeps: the words of the whole blocks, the bytes that are left, the number of bytes.
func TestAddFields(t *testing.T) {
	for n := range 200 {
		b := pattern(n)
		s := sha.Add(sha.New(), b)
		if s.N != n || !bytes.Equal(s.Rest, b[n/64*64:]) {
			t.Errorf("Add of %d bytes: N %d, Rest %x", n, s.N, s.Rest)
		}
		if n < 64 && s.H != sha.New().H {
			t.Errorf("Add of %d bytes: words changed before a block was full", n)
		}
		if whole := sha.Add(sha.New(), b[:n/64*64]); s.H != whole.H {
			t.Errorf("Add of %d bytes: words are not those of the whole blocks", n)
		}
	}
}

// P1.1: any valid state goes on from its own words and number.
func TestValidStates(t *testing.T) {
	for _, s := range valid() {
		if got, want := sha.End(s), reference(t, s, nil); got != want {
			t.Errorf("End of N %d: %x, want %x", s.N, got, want)
		}
		for _, n := range []int{0, 1, 7, 8, 9, 55, 56, 63, 64, 65, 130} {
			b := pattern(n)
			if s.N+n > mostLen {
				continue
			}
			got := sha.Add(s, b)
			if got.N != s.N+n || len(got.Rest) != got.N%64 {
				t.Errorf("Add of %d bytes to N %d: N %d, Rest of %d", n, s.N, got.N, len(got.Rest))
			}
			if d, want := sha.End(got), reference(t, s, b); d != want {
				t.Errorf("Add of %d bytes to N %d: digest %x, want %x", n, s.N, d, want)
			}
		}
	}
}

// P1.1: New takes the place of a state that is not valid.
func TestNotValidStates(t *testing.T) {
	for _, s := range notValid() {
		if got := sha.End(s); got != sha.Sum(nil) {
			t.Errorf("End of N %d, Rest of %d: %x", s.N, len(s.Rest), got)
		}
		for _, n := range []int{0, 1, 59, 64, 100} {
			b := pattern(n)
			if got, want := sha.Add(s, b), sha.Add(sha.New(), b); !same(got, want) {
				t.Errorf("Add of %d bytes to N %d, Rest of %d: %+v", n, s.N, len(s.Rest), got)
			}
		}
	}
}

// P1.1: a state has at most 2^40 bytes; beyond that, adding starts from New.
func TestAddFull(t *testing.T) {
	h := [8]uint32{1, 2, 3, 4, 5, 6, 7, 8}
	s := sha.State{H: h, Rest: pattern(61), N: mostLen - 3}
	full := sha.Add(s, []byte("abc"))
	if full.N != mostLen || len(full.Rest) != 0 || sha.End(full) != reference(t, s, []byte("abc")) {
		t.Errorf("Add up to 2^40: %+v", full)
	}
	if got := sha.Add(full, nil); !same(got, full) {
		t.Errorf("Add of nothing at 2^40: %+v", got)
	}
	for _, c := range []struct {
		s sha.State
		b []byte
	}{
		{s, []byte("abcd")},
		{s, pattern(300)},
		{full, []byte("a")},
		{full, pattern(64)},
	} {
		if got, want := sha.Add(c.s, c.b), sha.Add(sha.New(), c.b); !same(got, want) {
			t.Errorf("Add of %d bytes to N %d: %+v", len(c.b), c.s.N, got)
		}
	}
}

// P1.3: a digest has 32 bytes.
func TestDigestLen(t *testing.T) {
	for n := range 200 {
		if d := sha.Sum(pattern(n)); len(d) != api.DigestLen {
			t.Errorf("Sum of %d bytes has %d", n, len(d))
		}
	}
	for _, s := range append(valid(), notValid()...) {
		if d := sha.End(s); len(d) != api.DigestLen {
			t.Errorf("End of N %d has %d bytes", s.N, len(d))
		}
	}
}

// P1.3: adding in two parts, wherever they are cut, and byte by byte.
func TestParts(t *testing.T) {
	for _, n := range []int{0, 1, 55, 56, 63, 64, 65, 128, 200} {
		b := pattern(n)
		want := sha.Add(sha.New(), b)
		for cut := range n + 1 {
			s := sha.Add(sha.Add(sha.New(), b[:cut]), b[cut:])
			if !same(s, want) || sha.End(s) != sha.Sum(b) {
				t.Errorf("%d bytes cut at %d: %+v", n, cut, s)
			}
		}
		s := sha.New()
		for i := range b {
			s = sha.Add(s, b[i:i+1])
		}
		if !same(s, want) || sha.End(s) != sha.Sum(b) {
			t.Errorf("%d bytes one by one: %+v", n, s)
		}
	}
}

// R3: arguments stay as they are, up to their capacity, and results share no memory with them.
func TestMemory(t *testing.T) {
	for rest := range 64 {
		for _, n := range []int{0, 1, 40, 64, 70, 130} {
			wide := pattern(128)
			s := sha.State{H: sha.New().H, Rest: wide[:rest], N: 64 + rest}
			b := pattern(n + 50)
			got := sha.Add(s, b[:n])
			want := sha.End(got)
			sha.End(s)
			sha.Sum(b[:n])
			if !bytes.Equal(wide, pattern(128)) || !bytes.Equal(b, pattern(n+50)) {
				t.Fatalf("Rest of %d and %d bytes: an argument was modified", rest, n)
			}
			clear(wide)
			clear(b)
			if sha.End(got) != want {
				t.Errorf("Rest of %d and %d bytes: the result shares memory with an argument", rest, n)
			}
			clear(got.Rest[:cap(got.Rest)])
			if !bytes.Equal(wide, make([]byte, 128)) || !bytes.Equal(b, make([]byte, n+50)) {
				t.Errorf("Rest of %d and %d bytes: an argument was modified through the result", rest, n)
			}
		}
	}
}

// R3: two states that go on from the same one don't touch each other.
func TestBranches(t *testing.T) {
	s := sha.Add(sha.New(), []byte("hay"))
	one := sha.Add(s, []byte(" one"))
	two := sha.Add(s, []byte(" two"))
	if sha.End(one) != sha.Sum([]byte("hay one")) || sha.End(two) != sha.Sum([]byte("hay two")) || sha.End(s) != sha.Sum([]byte("hay")) {
		t.Error("states share memory")
	}
}

// R3: what a caller writes into a state from New is not seen by another one.
func TestNewIsOwn(t *testing.T) {
	s := sha.New()
	clear(s.H[:])
	if sha.End(sha.New()) != sha.Sum(nil) || sha.New().H[0] != 0x6a09e667 {
		t.Error("New gives out shared words")
	}
}

// R4: the same call yields the same result.
func TestDeterminism(t *testing.T) {
	b := pattern(1000)
	want := sha256.Sum256(b)
	for range 5 {
		if sha.Sum(b) != string(want[:]) {
			t.Fatal("Sum differs from call to call")
		}
	}
}
