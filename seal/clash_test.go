package seal_test

import (
	"bytes"
	"encoding/json"
	"os"
	"os/exec"
	"path/filepath"
	"strings"
	"testing"

	"rubrick/seal"
	"rubrick/sha"
)

// weakSums is set in the environment of a test that runs with weakSha.
const weakSums = "SEAL_TEST_WEAK_SUMS"

// weakSha takes the place of package sha where collisions are needed, as none of SHA-256 is known.
// Its digests have at most one byte that is not zero, so that two of them may differ in any single byte.
const weakSha = `package sha

func Sum(b []byte) string {
	n := 0
	for _, c := range b {
		n += int(c)
	}
	d := make([]byte, 33)
	d[n%33] = 1
	return string(d[:32])
}
`

// writeFile writes a file to a folder and returns its path.
func writeFile(t *testing.T, folder, name string, b []byte) string {
	t.Helper()
	path := filepath.Join(folder, name)
	if err := os.WriteFile(path, b, 0o600); err != nil {
		t.Fatal(err)
	}
	return path
}

// weakOverlay returns a file that tells the go command to build package sha from weakSha alone.
func weakOverlay(t *testing.T) string {
	t.Helper()
	folder, err := filepath.Abs(filepath.Join("..", "sha"))
	if err != nil {
		t.Fatal(err)
	}
	files, err := filepath.Glob(filepath.Join(folder, "*.go"))
	if err != nil {
		t.Fatal(err)
	}
	replace := map[string]string{}
	for _, f := range files {
		replace[f] = ""
	}
	temp := t.TempDir()
	replace[filepath.Join(folder, "weak.go")] = writeFile(t, temp, "weak.go", []byte(weakSha))
	b, err := json.Marshal(map[string]any{"Replace": replace})
	if err != nil {
		t.Fatal(err)
	}
	return writeFile(t, temp, "overlay.json", b)
}

// weakly reports whether the test runs with weakSha; otherwise it runs the test once more, with it.
func weakly(t *testing.T) bool {
	t.Helper()
	if os.Getenv(weakSums) != "" {
		return true
	}
	c := exec.Command("go", "test", "-count=1", "-v", "-vet=off", "-overlay="+weakOverlay(t), "-run=^"+t.Name()+"$", ".")
	c.Env = append(os.Environ(), weakSums+"=1")
	out, err := c.CombinedOutput()
	if err != nil || !strings.Contains(string(out), "--- PASS: "+t.Name()+" ") {
		t.Errorf("with weak sums: %v\n%s", err, out)
	}
	return false
}

// same reports whether two collisions are equal, where nil and empty slices are.
func same(c, d seal.Clash) bool {
	return bytes.Equal(c.A, d.A) && bytes.Equal(c.B, d.B)
}

// pair is a pair of byte strings that may be a collision.
type pair struct{ a, b []byte }

// P3.2: equal byte strings, also nil and empty ones, are no collision.
func TestEqual(t *testing.T) {
	l := []pair{{nil, nil}, {nil, []byte{}}, {[]byte{}, nil}, {[]byte{}, []byte{}}}
	for _, s := range things() {
		b := []byte(s)
		l = append(l, pair{b, b}, pair{b, []byte(s)}, pair{seal.LeafBytes(b), seal.LeafBytes(b)})
	}
	for _, p := range l {
		if seal.Is(seal.Clash{A: p.a, B: p.b}) {
			t.Errorf("Is(%q, %q): true", p.a, p.b)
		}
		if c, ok := seal.Between(p.a, p.b); ok || len(c.A) != 0 || len(c.B) != 0 {
			t.Errorf("Between(%q, %q): %q, %v", p.a, p.b, c, ok)
		}
	}
	if seal.Is(seal.Clash{}) {
		t.Error("Is of the zero Clash: true")
	}
}

// P3.2: different byte strings with different digests are no collision.
func TestDifferent(t *testing.T) {
	for _, s := range things() {
		for _, u := range things() {
			if s == u {
				continue
			}
			a, b := []byte(s), []byte(u)
			if seal.Is(seal.Clash{A: a, B: b}) {
				t.Errorf("Is(%q, %q): true", a, b)
			}
			if c, ok := seal.Between(a, b); ok || len(c.A) != 0 || len(c.B) != 0 {
				t.Errorf("Between(%q, %q): %q, %v", a, b, c, ok)
			}
		}
	}
	if c, ok := seal.Between(nil, []byte{0}); ok || c.A != nil || c.B != nil {
		t.Errorf("Between of nothing and a byte: %q, %v", c, ok)
	}
}

// P3.2: different byte strings with the same digest are a collision, and only these are.
func TestCollisions(t *testing.T) {
	if !weakly(t) {
		return
	}
	found := 0
	l := append(things(), "ab", "ba", "abc", "cba", "\xff\x00", "\x00\xff")
	for n := range 34 {
		l = append(l, string([]byte{byte(n)}))
	}
	for _, s := range l {
		for _, u := range l {
			pair := seal.Clash{A: []byte(s), B: []byte(u)}
			want := s != u && sha.Sum([]byte(s)) == sha.Sum([]byte(u))
			if want {
				found++
			}
			if got := seal.Is(pair); got != want {
				t.Errorf("Is(%q, %q): %v", s, u, got)
			}
			c, ok := seal.Between([]byte(s), []byte(u))
			if ok != want || want && !same(c, pair) || !want && !same(c, seal.Clash{}) {
				t.Errorf("Between(%q, %q): %q, %v", s, u, c, ok)
			}
		}
	}
	if found == 0 {
		t.Error("no collisions to look at")
	}
}

// P3.3: two different things with the same seal, of whatever kinds, yield the collision of their bytes.
func TestSealsCollide(t *testing.T) {
	if !weakly(t) {
		return
	}
	seals := map[string]string{}
	for _, k := range kinds() {
		for _, s := range things() {
			seals[string(k.bytes([]byte(s)))] = k.seal([]byte(s))
		}
	}
	for _, d := range digests() {
		for _, e := range digests() {
			seals[string(seal.NodeBytes(d, e))], _ = seal.Node(d, e)
		}
	}
	found := 0
	for a, one := range seals {
		for b, other := range seals {
			if a == b || one != other {
				continue
			}
			found++
			c, ok := seal.Between([]byte(a), []byte(b))
			if !ok || !same(c, seal.Clash{A: []byte(a), B: []byte(b)}) || !seal.Is(c) {
				t.Errorf("Between(%q, %q): %q, %v", a, b, c, ok)
			}
		}
	}
	if found == 0 {
		t.Error("no collisions to look at")
	}
}

// R3: a collision shares no memory, neither with the arguments, which may overlap, nor between its two byte strings.
func TestCollisionMemory(t *testing.T) {
	if !weakly(t) {
		return
	}
	wide := []byte{5, 7, 0, 0, 0, 0}
	want := seal.Clash{A: []byte{5, 7}, B: []byte{5, 7, 0}}
	c, ok := seal.Between(wide[:2], wide[:3])
	if !bytes.Equal(wide, []byte{5, 7, 0, 0, 0, 0}) {
		t.Errorf("the arguments were modified: %x", wide)
	}
	clear(wide)
	if !ok || !same(c, want) {
		t.Fatalf("shares memory with the arguments: %x, %v", c, ok)
	}
	clear(c.A[:cap(c.A)])
	if !bytes.Equal(c.B, want.B) {
		t.Errorf("A and B share memory: %x", c)
	}
}

// R3: arguments that are no collision are not modified either.
func TestDifferentMemory(t *testing.T) {
	wide := bytes.Repeat([]byte{7}, 100)
	seal.Is(seal.Clash{A: wide[:3], B: wide[4:70]})
	seal.Between(wide[:3], wide[4:70])
	if !bytes.Equal(wide, bytes.Repeat([]byte{7}, 100)) {
		t.Errorf("the arguments were modified: %x", wide)
	}
}
