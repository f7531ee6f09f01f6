package post_test

import (
	"bytes"
	"math"
	"math/rand/v2"
	"slices"
	"testing"

	"rubrick/api"
	"rubrick/post"
)

// listCalls are the calls that return a list, of two lists and bytes.
var listCalls = map[string]func(a, b []int, s []byte) []int{
	"Both":   func(a, b []int, _ []byte) []int { return post.Both(a, b) },
	"Either": func(a, b []int, _ []byte) []int { return post.Either(a, b) },
	"But":    func(a, b []int, _ []byte) []int { return post.But(a, b) },
	"In":     func(a, _ []int, _ []byte) []int { return post.In(a, api.Span{From: 0, To: api.MaxDocs}) },
	"Read": func(_, _ []int, s []byte) []int {
		l, _ := post.Read(s)
		return l
	},
}

// wide returns a copy of l with elements beyond its end.
func wide(l []int) []int {
	return append(slices.Clone(l), 5, 6, 7)[:len(l)]
}

// R3: arguments are not modified, also beyond their ends, and the lists that are returned are new memory.
func TestListMemory(t *testing.T) {
	some := append(rightLists()[:20], upTo(0, api.MaxDocs, 1), []int{2, 1}, []int{0, 1000})
	for name, call := range listCalls {
		for _, x := range some {
			for _, y := range some {
				a, b, s := wide(x), wide(y), append([]byte(encoded(x)), 7, 7)[:len(encoded(x))]
				wantA, wantB, wantS := slices.Clone(a[:cap(a)]), slices.Clone(b[:cap(b)]), bytes.Clone(s[:cap(s)])
				got, other := call(a, b, s), call(a, b, s)
				want := slices.Clone(got)
				if !slices.Equal(got, other) {
					t.Fatalf("%s of %v, %v: %v, and then %v", name, x, y, got, other)
				}
				clear(other[:cap(other)])
				got = append(got, 9)[:len(got)]
				if !slices.Equal(a[:cap(a)], wantA) || !slices.Equal(b[:cap(b)], wantB) || !bytes.Equal(s[:cap(s)], wantS) {
					t.Fatalf("%s of %v, %v: the arguments were modified, or share memory", name, x, y)
				}
				clear(a[:cap(a)])
				clear(b[:cap(b)])
				clear(s[:cap(s)])
				if !slices.Equal(got, want) {
					t.Fatalf("%s of %v, %v: the result shares memory", name, x, y)
				}
			}
		}
	}
}

// R3: Right, Write and Digest do not modify their arguments, and encodings are new memory.
func TestBytesMemory(t *testing.T) {
	for _, x := range append(rightLists(), wrongLists()...) {
		l := wide(x)
		before := slices.Clone(l[:cap(l)])
		right := post.Right(l)
		b, e := post.Write(l)
		other, _ := post.Write(l)
		d, f := post.Digest(l)
		want := string(b)
		clear(other[:cap(other)])
		if !slices.Equal(l[:cap(l)], before) {
			t.Fatalf("%v was modified", x)
		}
		clear(l[:cap(l)])
		if string(b) != want || right != post.Right(x) || e != f {
			t.Errorf("Write(%v) shares memory: %x, %d, %x, %d", x, b, e, d, f)
		}
	}
}

// R1: no call panics, whatever it is given, and no list is returned that is no posting list.
func TestAnyArguments(t *testing.T) {
	r := rand.New(rand.NewPCG(9, 4))
	some := []int{math.MinInt, math.MinInt + 1, -1000, -2, -1, 0, 1, 2, 3, 499, 998, 999, 1000, 1001, api.MaxNum, math.MaxInt - 1, math.MaxInt}
	anyList := func() []int {
		l := make([]int, r.IntN(6))
		for i := range l {
			l[i] = some[r.IntN(len(some))]
		}
		return l
	}
	for range 20000 {
		a, b, s := anyList(), anyList(), make([]byte, r.IntN(40))
		for i := range s {
			s[i] = byte(r.IntN(256))
		}
		expectSets(t, a, b)
		read, e := post.Read(s)
		in := post.In(a, api.Span{From: some[r.IntN(len(some))], To: some[r.IntN(len(some))]})
		if !post.Right(read) || !post.Right(in) || e != api.OK && len(read) > 0 {
			t.Fatalf("%v, %v, %x: %v, %d, %v", a, b, s, read, e, in)
		}
		w, e := post.Write(a)
		d, f := post.Digest(a)
		right := post.Right(a)
		if e != f || right != (e == api.OK) || right != (len(w) > 0) || right != (len(d) == api.DigestLen) {
			t.Fatalf("%v: %v, %x, %d, %x, %d", a, right, w, e, d, f)
		}
	}
}
