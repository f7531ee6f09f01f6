package seal_test

import (
	"bytes"
	"fmt"
	"slices"
	"strings"
	"testing"

	"rubrick/api"
	"rubrick/seal"
	"rubrick/sha"
)

// kind is a kind of what is sealed as one byte string: the byte that identifies it, and its calls.
type kind struct {
	name  string
	mark  string
	bytes func(b []byte) []byte
	seal  func(b []byte) string
}

// kinds are all kinds but the node.
func kinds() []kind {
	return []kind{
		{"Leaf", "\x00", seal.LeafBytes, seal.Leaf},
		{"Posts", "\x02", seal.PostsBytes, seal.Posts},
		{"Head", "\x03", seal.HeadBytes, seal.Head},
	}
}

// things are byte strings of lengths around the edges of a digest, of a node and of the blocks of the hash, and of any bytes.
func things() []string {
	l := []string{"", "\x00", "\x01", "\x02", "\x03", "\x00\x00", "\x00\x01", "hay", "\x01hay", "wäin", "\xff\xfe\x80"}
	for _, n := range []int{2, 31, 32, 33, 54, 55, 56, 62, 63, 64, 65, 127, 128, 5000} {
		l = append(l, strings.Repeat("\xffab\x00", n)[:n], strings.Repeat("\x00", n))
	}
	return l
}

// digests are strings of 32 bytes, of digests and of any bytes.
func digests() []string {
	return []string{
		strings.Repeat("\x00", 32),
		strings.Repeat("\xff", 32),
		strings.Repeat("\x00", 31) + "\x01",
		"\x01" + strings.Repeat("\x00", 31),
		sha.Sum(nil),
		seal.Leaf(nil),
		seal.Leaf([]byte("hay")),
	}
}

// P3.1: seals that were computed independently.
func TestSealsKnown(t *testing.T) {
	for _, c := range []struct{ name, got, want string }{
		{"leaf of nothing", seal.Leaf(nil), "6e340b9cffb37a989ca544e6bb780a2c78901d3fb33738768511a30617afa01d"},
		{"leaf of no bytes", seal.Leaf([]byte{}), "6e340b9cffb37a989ca544e6bb780a2c78901d3fb33738768511a30617afa01d"},
		{"leaf of hay", seal.Leaf([]byte("hay")), "60b82bb891100053818da2c1dd3c96faad0f2bbd7dc746cf14eb4f6f8d6cb299"},
		{"posts of nothing", seal.Posts(nil), "dbc1b4c900ffe48d575b5da5c638040125f65db0fe3e24494b76ea986457d986"},
		{"posts of hay", seal.Posts([]byte("hay")), "6d4ad1a822fc3159800cf281a0b4b50550d38e19908379ffda1ffce69686d0c0"},
		{"head of nothing", seal.Head(nil), "084fed08b978af4d7d196a7446a86b58009e636b611db16211b65a9aadff29c5"},
		{"head of hay", seal.Head([]byte("hay")), "a14b9e5b7e63e364aba4efc741b697f47192dce0f216afeb0cdf69ff4eecc0ed"},
	} {
		if got := fmt.Sprintf("%x", c.got); got != c.want {
			t.Errorf("%s: %s", c.name, got)
		}
	}
}

// P3.1: nodes of digests, in this order, of which the seals were computed independently.
func TestNodeKnown(t *testing.T) {
	a, b, zero := seal.Leaf(nil), seal.Leaf([]byte("hay")), strings.Repeat("\x00", 32)
	for _, c := range []struct{ l, r, want string }{
		{a, b, "38eb7e6e3efe3a200ece308a26ab78a8c563bdf428c1791a1da92fc510aeba9c"},
		{b, a, "3ffdebbda4690f7fe326b5e9d3750a3e99752a44a630aca71f2629cf651e0d14"},
		{zero, zero, "ae0798d0ecaed2b778eddebf18f071a561c53658c05e76cedecc27cafbdbc577"},
	} {
		got, e := seal.Node(c.l, c.r)
		if fmt.Sprintf("%x", got) != c.want || e != api.OK {
			t.Errorf("Node(%x, %x): %x, %d", c.l, c.r, got, e)
		}
	}
}

// P3.1: the bytes of seals, and their digests as seals, for byte strings of any length.
func TestSeals(t *testing.T) {
	for _, k := range kinds() {
		for _, s := range things() {
			if got := k.bytes([]byte(s)); string(got) != k.mark+s {
				t.Errorf("%sBytes(%q): %q", k.name, s, got)
			}
			if got := k.seal([]byte(s)); got != sha.Sum([]byte(k.mark+s)) || len(got) != 32 {
				t.Errorf("%s(%q): %x", k.name, s, got)
			}
		}
		if got := k.bytes(nil); string(got) != k.mark {
			t.Errorf("%sBytes of nothing: %q", k.name, got)
		}
	}
}

// P3.1: the bytes of a node of two strings of any lengths.
func TestNodeBytes(t *testing.T) {
	for _, l := range things() {
		for _, r := range things() {
			if got := seal.NodeBytes(l, r); string(got) != "\x01"+l+r {
				t.Errorf("NodeBytes(%q, %q): %q", l, r, got)
			}
		}
	}
}

// P3.1 and R2: a node has a seal if both strings have 32 bytes, and otherwise ErrArg and no seal.
func TestNode(t *testing.T) {
	for _, l := range digests() {
		for _, r := range digests() {
			if got, e := seal.Node(l, r); got != sha.Sum([]byte("\x01"+l+r)) || e != api.OK {
				t.Errorf("Node(%x, %x): %x, %d", l, r, got, e)
			}
		}
	}
	lengths := []int{0, 1, 30, 31, 32, 33, 34, 63, 64, 65, 320}
	for _, n := range lengths {
		for _, m := range lengths {
			if n == 32 && m == 32 {
				continue
			}
			l, r := strings.Repeat("l", n), strings.Repeat("r", m)
			if got, e := seal.Node(l, r); got != "" || e != api.ErrArg {
				t.Errorf("Node of %d and %d bytes: %x, %d", n, m, got, e)
			}
		}
	}
	// What counts is bytes: 16 letters of two bytes are 32, 32 of them are not.
	if got, e := seal.Node(strings.Repeat("ä", 16), strings.Repeat("ä", 16)); got == "" || e != api.OK {
		t.Errorf("Node of 16 letters of two bytes: %x, %d", got, e)
	}
	if got, e := seal.Node(strings.Repeat("ä", 32), strings.Repeat("ä", 32)); got != "" || e != api.ErrArg {
		t.Errorf("Node of 32 letters of two bytes: %x, %d", got, e)
	}
}

// P3.3: the bytes and the seals of different kinds, and of different things of one kind, are different.
func TestSealsDiffer(t *testing.T) {
	all := map[string]string{}
	add := func(thing string, seals ...string) {
		for _, s := range seals {
			if other, ok := all[s]; ok {
				t.Errorf("%s and %s: %x", thing, other, s)
			}
			all[s] = thing
		}
	}
	for _, k := range kinds() {
		l := things()
		for _, d := range digests() {
			for _, e := range digests() {
				l = append(l, d+e)
			}
		}
		slices.Sort(l)
		for _, s := range slices.Compact(l) {
			add(fmt.Sprintf("%s of %q", k.name, s), string(k.bytes([]byte(s))), k.seal([]byte(s)))
		}
	}
	for _, l := range digests() {
		for _, r := range digests() {
			s, e := seal.Node(l, r)
			if e != api.OK {
				t.Errorf("Node(%x, %x): %d", l, r, e)
			}
			add(fmt.Sprintf("Node of %x, %x", l, r), string(seal.NodeBytes(l, r)), s)
		}
	}
}

// R3: arguments are not modified, and the bytes of seals share no memory, neither with them nor with each other.
func TestSealsMemory(t *testing.T) {
	for _, k := range kinds() {
		for n := range 70 {
			wide := bytes.Repeat([]byte{7}, 100)
			got, other, sum := k.bytes(wide[:n]), k.bytes(wide[:n]), k.seal(wide[:n])
			if !bytes.Equal(wide, bytes.Repeat([]byte{7}, 100)) {
				t.Fatalf("%s of %d bytes: the argument was modified", k.name, n)
			}
			want := k.mark + string(wide[:n])
			clear(wide)
			clear(other[:cap(other)])
			if string(got) != want || sum != sha.Sum([]byte(want)) {
				t.Errorf("%s of %d bytes: the result shares memory", k.name, n)
			}
		}
	}
	got, other := seal.NodeBytes("hay", "wain"), seal.NodeBytes("hay", "wain")
	clear(other[:cap(other)])
	if string(got) != "\x01haywain" {
		t.Errorf("NodeBytes: the result shares memory: %q", got)
	}
}
