package clash

import (
	"rubrick/seal"
	"rubrick/tree"
)

// list is honest leaves, with their digests.
type list struct {
	leaves  [][]byte
	digests []string
}

// newList returns the list of leaves.
func newList(leaves [][]byte) list {
	return list{leaves, tree.Leaves(leaves)}
}

// start returns the first k leaves.
func (l list) start(k int) list {
	return list{l.leaves[:k], l.digests[:k]}
}

// rest returns the leaves after the first k.
func (l list) rest(k int) list {
	return list{l.leaves[k:], l.digests[k:]}
}

// split returns how many leaves are in the first part of more than one.
func (l list) split() int {
	return tree.Split(len(l.leaves))
}

// root returns the root.
func (l list) root() string {
	d, _ := tree.Root(l.digests)
	return d
}

// node returns the bytes of the node at the root of more than one leaf.
func (l list) node() []byte {
	k := l.split()
	return seal.NodeBytes(l.start(k).root(), l.rest(k).root())
}
