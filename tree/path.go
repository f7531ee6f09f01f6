package tree

import "rubrick/api"

// Path returns the path of the index i, or ErrArg if an element is no digest or there is no such index.
func Path(l []string, i int) ([]string, api.Errno) {
	if i < 0 || i >= len(l) || !digests(l) {
		return nil, api.ErrArg
	}
	return siblings(l, i), api.OK
}

// siblings returns the path of an index that a list of digests has.
func siblings(l []string, i int) []string {
	k := Split(len(l))
	switch {
	case k == 0:
		return nil
	case i < k:
		return append(siblings(l[:k], i), root(l[k:]))
	default:
		return append(siblings(l[k:], i-k), root(l[:k]))
	}
}

// Climb returns the root to which a path leads, from a digest at the index i of n.
// It returns ErrArg if there is no such digest or index, and ErrProof if the path is none of this index.
func Climb(leaf string, i, n int, path []string) (string, api.Errno) {
	if len(leaf) != api.DigestLen || n < 1 || n > most || i < 0 || i >= n {
		return "", api.ErrArg
	}
	right := turns(i, n)
	if len(path) != len(right) || !digests(path) {
		return "", api.ErrProof
	}
	d := leaf
	for j := range len(path) {
		if right[len(right)-1-j] {
			d = node(path[j], d)
		} else {
			d = node(d, path[j])
		}
	}
	return d, api.OK
}

// turns returns for each node from the root down to the index i of n whether its right part has that index.
func turns(i, n int) []bool {
	var out []bool
	for n > 1 {
		k := Split(n)
		right := i >= k
		if right {
			i, n = i-k, n-k
		} else {
			n = k
		}
		out = append(out, right)
	}
	return out
}
