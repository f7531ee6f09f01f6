package seal

import (
	"bytes"

	"rubrick/sha"
)

// Clash is a collision: two different byte strings with the same digest.
type Clash struct{ A, B []byte }

// Is reports whether c is a collision.
func Is(c Clash) bool {
	return !bytes.Equal(c.A, c.B) && sha.Sum(c.A) == sha.Sum(c.B)
}

// Between returns the collision of a and b, and whether they are one.
func Between(a, b []byte) (Clash, bool) {
	if !Is(Clash{A: a, B: b}) {
		return Clash{}, false
	}
	return Clash{A: bytes.Clone(a), B: bytes.Clone(b)}, true
}
