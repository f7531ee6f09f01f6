// Package sha computes SHA-256, the hash function of FIPS 180-4.
package sha

import (
	"math/bits"

	"rubrick/api"
)

const (
	blockLen = 64      // bytes that are hashed at a time
	rounds   = 64      // steps that hash a block
	lenAt    = 56      // where the number of bits stands in the last block
	mostLen  = 1 << 40 // bytes that a state may have been given
)

// State is a hash computation in progress.
type State struct {
	H    [8]uint32
	Rest []byte
	N    int
}

// roundWords are the constants of the rounds (FIPS 180-4, 4.2.2).
var roundWords = [rounds]uint32{
	0x428a2f98, 0x71374491, 0xb5c0fbcf, 0xe9b5dba5, 0x3956c25b, 0x59f111f1, 0x923f82a4, 0xab1c5ed5,
	0xd807aa98, 0x12835b01, 0x243185be, 0x550c7dc3, 0x72be5d74, 0x80deb1fe, 0x9bdc06a7, 0xc19bf174,
	0xe49b69c1, 0xefbe4786, 0x0fc19dc6, 0x240ca1cc, 0x2de92c6f, 0x4a7484aa, 0x5cb0a9dc, 0x76f988da,
	0x983e5152, 0xa831c66d, 0xb00327c8, 0xbf597fc7, 0xc6e00bf3, 0xd5a79147, 0x06ca6351, 0x14292967,
	0x27b70a85, 0x2e1b2138, 0x4d2c6dfc, 0x53380d13, 0x650a7354, 0x766a0abb, 0x81c2c92e, 0x92722c85,
	0xa2bfe8a1, 0xa81a664b, 0xc24b8b70, 0xc76c51a3, 0xd192e819, 0xd6990624, 0xf40e3585, 0x106aa070,
	0x19a4c116, 0x1e376c08, 0x2748774c, 0x34b0bcb5, 0x391c0cb3, 0x4ed8aa4a, 0x5b9cca4f, 0x682e6ff3,
	0x748f82ee, 0x78a5636f, 0x84c87814, 0x8cc70208, 0x90befffa, 0xa4506ceb, 0xbef9a3f7, 0xc67178f2,
}

// New returns the state to which nothing has been added.
func New() State {
	return State{H: [8]uint32{
		0x6a09e667, 0xbb67ae85, 0x3c6ef372, 0xa54ff53a,
		0x510e527f, 0x9b05688c, 0x1f83d9ab, 0x5be0cd19,
	}}
}

// Add returns the state after adding b to s, or to New() if s is not valid or would become too long.
func Add(s State, b []byte) State {
	if !valid(s) || s.N > mostLen-len(b) {
		s = New()
	}
	s.N += len(b)
	var block [blockLen]byte
	fill := copy(block[:], s.Rest)
	for fill+len(b) >= blockLen {
		b = b[copy(block[fill:], b):]
		s.H = mix(s.H, block)
		fill = 0
	}
	fill += copy(block[fill:], b)
	s.Rest = append([]byte(nil), block[:fill]...)
	return s
}

// End returns the digest of all bytes that have been added to s since New().
func End(s State) string {
	if !valid(s) {
		s = New()
	}
	var block [blockLen]byte
	fill := copy(block[:], s.Rest)
	block[fill] = 0x80
	// The mark may leave no room for the length, which then goes to a block of its own.
	if fill >= lenAt {
		s.H = mix(s.H, block)
		block = [blockLen]byte{}
	}
	length := uint64(s.N) * 8
	for i := range 8 {
		block[lenAt+i] = byte(length >> (56 - 8*i))
	}
	return text(mix(s.H, block))
}

// Sum returns the digest of b.
func Sum(b []byte) string {
	return End(Add(New(), b))
}

// valid reports whether s can have come from adding bytes.
func valid(s State) bool {
	return s.N >= 0 && s.N <= mostLen && len(s.Rest) == s.N%blockLen
}

// mix returns the words h after one more block (FIPS 180-4, 6.2.2).
func mix(h [8]uint32, block [blockLen]byte) [8]uint32 {
	words := spread(block)
	// The eight words turn in variables of their own, which is several times faster than in an array.
	a, b, c, d, e, f, g, last := h[0], h[1], h[2], h[3], h[4], h[5], h[6], h[7]
	for i := range rounds {
		choice := e&f ^ ^e&g
		majority := a&b ^ a&c ^ b&c
		one := last + turned(e, 6, 11, 25) + choice + roundWords[i] + words[i]
		two := turned(a, 2, 13, 22) + majority
		a, b, c, d, e, f, g, last = one+two, a, b, c, d+one, e, f, g
	}
	return [8]uint32{h[0] + a, h[1] + b, h[2] + c, h[3] + d, h[4] + e, h[5] + f, h[6] + g, h[7] + last}
}

// spread returns the words of a block for the rounds.
func spread(block [blockLen]byte) [rounds]uint32 {
	var w [rounds]uint32
	for i := range 16 {
		p := 4 * i
		w[i] = uint32(block[p])<<24 | uint32(block[p+1])<<16 | uint32(block[p+2])<<8 | uint32(block[p+3])
	}
	for i := 16; i < rounds; i++ {
		x, y := w[i-15], w[i-2]
		low := bits.RotateLeft32(x, -7) ^ bits.RotateLeft32(x, -18) ^ x>>3
		high := bits.RotateLeft32(y, -17) ^ bits.RotateLeft32(y, -19) ^ y>>10
		w[i] = w[i-16] + low + w[i-7] + high
	}
	return w
}

// turned combines x rotated to the right by i, j and k bits.
func turned(x uint32, i, j, k int) uint32 {
	return bits.RotateLeft32(x, -i) ^ bits.RotateLeft32(x, -j) ^ bits.RotateLeft32(x, -k)
}

// text returns the bytes of the words h, most significant first.
func text(h [8]uint32) string {
	d := make([]byte, 0, api.DigestLen)
	for _, w := range h {
		d = append(d, byte(w>>24), byte(w>>16), byte(w>>8), byte(w))
	}
	return string(d)
}
