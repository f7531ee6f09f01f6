package clash_test

import (
	"encoding/json"
	"fmt"
	"os"
	"os/exec"
	"path/filepath"
	"strconv"
	"strings"
	"sync"
	"testing"
)

// weakSums is set in the environment of a test that runs with weakSha.
const weakSums = "CLASH_TEST_WEAK_SUMS"

// weakSha takes the place of package sha where collisions are needed, as none of SHA-256 is known.
// How many digests there are is written behind it: with few of them, one search finds several collisions; with many, just those that a test has made.
const weakSha = `package sha

func Sum(b []byte) string {
	n := uint32(1)
	for _, c := range b {
		n = (n ^ uint32(c)) * 0x9e3779b1
		n ^= n >> 15
	}
	n %= digests
	return string(append(make([]byte, 28), byte(n>>24), byte(n>>16), byte(n>>8), byte(n)))
}

const digests = `

// The numbers of digests.
const (
	few  = 5
	many = 1 << 12
)

// writeFile writes a file to a folder and returns its path.
func writeFile(t *testing.T, folder, name string, b []byte) string {
	t.Helper()
	path := filepath.Join(folder, name)
	if err := os.WriteFile(path, b, 0o600); err != nil {
		t.Fatal(err)
	}
	return path
}

// weakOverlay returns a file that tells the go command to build package sha from weakSha alone.
func weakOverlay(t *testing.T, digests int) string {
	t.Helper()
	folder, err := filepath.Abs(filepath.Join("..", "sha"))
	if err != nil {
		t.Fatal(err)
	}
	files, err := filepath.Glob(filepath.Join(folder, "*.go"))
	if err != nil {
		t.Fatal(err)
	}
	replace := map[string]string{}
	for _, f := range files {
		replace[f] = ""
	}
	temp := t.TempDir()
	source := []byte(weakSha + strconv.Itoa(digests) + "\n")
	replace[filepath.Join(folder, "weak.go")] = writeFile(t, temp, "weak.go", source)
	b, err := json.Marshal(map[string]any{"Replace": replace})
	if err != nil {
		t.Fatal(err)
	}
	return writeFile(t, temp, "overlay.json", b)
}

// printed is what the tests printed that ran with weakSha, by its number of digests.
var printed = struct {
	sync.Mutex
	by map[int]string
}{by: map[int]string{}}

// weakRun returns what the tests print that begin with TestWeak and need so many digests. It runs them all at once, as building them takes longer.
func weakRun(t *testing.T, digests int) string {
	t.Helper()
	printed.Lock()
	defer printed.Unlock()
	if printed.by[digests] == "" {
		c := exec.Command("go", "test", "-count=1", "-v", "-vet=off", "-overlay="+weakOverlay(t, digests), "-run=^TestWeak", ".")
		c.Env = append(os.Environ(), weakSums+"="+strconv.Itoa(digests))
		out, err := c.CombinedOutput()
		printed.by[digests] = fmt.Sprintf("%s%v", out, err)
	}
	return printed.by[digests]
}

// weakly reports whether the test, whose name begins with TestWeak, runs with weakSha; otherwise it tells if the test fails with it.
func weakly(t *testing.T, digests int) bool {
	t.Helper()
	switch os.Getenv(weakSums) {
	case strconv.Itoa(digests):
		return true
	case "":
		if out := weakRun(t, digests); !strings.Contains(out, "--- PASS: "+t.Name()+" ") {
			t.Errorf("with weak sums: %s", out)
		}
	default:
		t.Skip("needs another number of digests")
	}
	return false
}
