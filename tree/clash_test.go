package tree_test

import (
	"encoding/json"
	"os"
	"os/exec"
	"path/filepath"
	"strings"
	"testing"

	"rubrick/api"
	"rubrick/seal"
	"rubrick/sha"
	"rubrick/tree"
)

// weakSums is set in the environment of a test that runs with weakSha.
const weakSums = "TREE_TEST_WEAK_SUMS"

// weakSha takes the place of package sha where collisions are needed, as none of SHA-256 is known.
// It has 33 digests, on which the order of two bytes has an influence.
const weakSha = `package sha

func Sum(b []byte) string {
	n := 0
	for _, c := range b {
		n = (n*5 + int(c)) % 33
	}
	d := make([]byte, 33)
	d[n] = 1
	return string(d[:32])
}
`

// writeFile writes a file to a folder and returns its path.
func writeFile(t *testing.T, folder, name string, b []byte) string {
	t.Helper()
	path := filepath.Join(folder, name)
	if err := os.WriteFile(path, b, 0o600); err != nil {
		t.Fatal(err)
	}
	return path
}

// weakOverlay returns a file that tells the go command to build package sha from weakSha alone.
func weakOverlay(t *testing.T) string {
	t.Helper()
	folder, err := filepath.Abs(filepath.Join("..", "sha"))
	if err != nil {
		t.Fatal(err)
	}
	files, err := filepath.Glob(filepath.Join(folder, "*.go"))
	if err != nil {
		t.Fatal(err)
	}
	replace := map[string]string{}
	for _, f := range files {
		replace[f] = ""
	}
	temp := t.TempDir()
	replace[filepath.Join(folder, "weak.go")] = writeFile(t, temp, "weak.go", []byte(weakSha))
	b, err := json.Marshal(map[string]any{"Replace": replace})
	if err != nil {
		t.Fatal(err)
	}
	return writeFile(t, temp, "overlay.json", b)
}

// weakly reports whether the test runs with weakSha; otherwise it runs the test once more, with it.
func weakly(t *testing.T) bool {
	t.Helper()
	if os.Getenv(weakSums) != "" {
		return true
	}
	c := exec.Command("go", "test", "-count=1", "-v", "-vet=off", "-overlay="+weakOverlay(t), "-run=^"+t.Name()+"$", ".")
	c.Env = append(os.Environ(), weakSums+"=1")
	out, err := c.CombinedOutput()
	if err != nil || !strings.Contains(string(out), "--- PASS: "+t.Name()+" ") {
		t.Errorf("with weak sums: %v\n%s", err, out)
	}
	return false
}

// mixed returns n digests, of a short rule.
func mixed(n int, state *uint32) []string {
	var out []string
	for range n {
		*state = *state*1664525 + 1013904223
		out = append(out, sha.Sum([]byte{byte(*state >> 24)}))
	}
	return out
}

// collides reports whether the bytes of two nodes at the same step are a collision.
func collides(a, b []step) bool {
	for j := range a {
		if _, ok := seal.Between(seal.NodeBytes(a[j].left, a[j].right), seal.NodeBytes(b[j].left, b[j].right)); ok {
			return true
		}
	}
	return false
}

// P6.6: two different digests that lead to the same root from the same index yield a collision at some step.
func TestClimbsCollide(t *testing.T) {
	if !weakly(t) {
		return
	}
	state, found := uint32(1), 0
	for _, c := range places() {
		length := pathLength(c.i, c.n)
		for range 50 {
			leaves, p, q := mixed(2, &state), mixed(length, &state), mixed(length, &state)
			if state>>31 == 0 {
				q = p
			}
			one, e := tree.Climb(leaves[0], c.i, c.n, p)
			other, f := tree.Climb(leaves[1], c.i, c.n, q)
			if e != api.OK || f != api.OK {
				t.Fatalf("Climb from %d in %d: %d, %d", c.i, c.n, e, f)
			}
			if leaves[0] == leaves[1] || one != other {
				continue
			}
			found++
			if !collides(steps(leaves[0], c.i, c.n, p), steps(leaves[1], c.i, c.n, q)) {
				t.Errorf("from %d in %d, %x by %x and %x by %x lead to %x without a collision", c.i, c.n, leaves[0], p, leaves[1], q, one)
			}
		}
	}
	if found < 100 {
		t.Errorf("%d roots to look at", found)
	}
}

// P6.5: lists of which both parts have the same roots have the same root, whatever their digests are.
func TestRootOfSameParts(t *testing.T) {
	if !weakly(t) {
		return
	}
	type key struct {
		n           int
		left, right string
	}
	state, found := uint32(1), 0
	roots, first := map[key]string{}, map[key]string{}
	for range 5000 {
		state = state*1664525 + 1013904223
		n := 2 + int(state>>16)%7
		l := mixed(n, &state)
		left, _ := tree.Range(l, 0, tree.Split(n))
		right, _ := tree.Range(l, tree.Split(n), n)
		got, e := tree.Root(l)
		k := key{n, left, right}
		if roots[k] == "" {
			roots[k], first[k] = got, strings.Join(l, "")
		}
		if first[k] != strings.Join(l, "") {
			found++
		}
		if got != roots[k] || e != api.OK {
			t.Errorf("Root of %x: %x, %d, of other digests %x", l, got, e, roots[k])
		}
	}
	if found < 100 {
		t.Errorf("%d lists to look at", found)
	}
}
