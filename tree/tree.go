// Package tree has the trees of keys with values. A node is never changed once it is made: a tree with another value, or without a key, is made of new nodes on the way to that key, and has all others in common with the tree that it came from. So the trees of versions stay as they are.
package tree

import (
	"iter"
	"strings"

	"twig/api"
	"twig/keys"
)

// signs are those of a path, each at the side of a branch for which it stands.
const signs = "01"

// Node is a node with all that is below it. The keys are told by their bits.
type Node struct {
	kind        int
	path, value string
	sides       [2]*Node
	digest      int
	sealed      bool
}

// Empty is the tree of no key.
func Empty() *Node { return &Node{kind: api.Empty} }

func leaf(path, value string) *Node {
	return &Node{kind: api.Leaf, path: path, value: value}
}

// branch is told its nodes by the side on which the first one is.
func branch(path string, side int, there, other *Node) *Node {
	n := &Node{kind: api.Branch, path: path}
	n.sides[side], n.sides[1-side] = there, other
	return n
}

// moved is the same node at another place of a tree, so its digest is another one too.
func (n *Node) moved(path string) *Node {
	return &Node{kind: n.kind, path: path, value: n.value, sides: n.sides}
}

// Sign is the bit that leads to that side of a branch.
func Sign(side int) string { return signs[side : side+1] }

// SideOf is the side of a branch to which the bits lead, of which there must be one.
func SideOf(bits string) int { return int(bits[0] - signs[0]) }

// shared is with how many bits both begin.
func shared(a, b string) int {
	n := 0
	for n < min(len(a), len(b)) && a[n] == b[n] {
		n++
	}
	return n
}

// With is the tree in which the key has that value.
func (n *Node) With(bits, value string) *Node {
	if n.kind == api.Empty {
		return leaf(bits, value)
	}
	common := shared(n.path, bits)
	if common < len(n.path) {
		parted := bits[common:]
		return branch(bits[:common], SideOf(parted), leaf(parted[1:], value), n.moved(n.path[common+1:]))
	}
	if n.kind == api.Leaf {
		return leaf(bits, value)
	}
	rest := bits[common:]
	side := SideOf(rest)
	return branch(n.path, side, n.sides[side].With(rest[1:], value), n.sides[1-side])
}

// Without is the tree without a key that it has.
func (n *Node) Without(bits string) *Node {
	if n.kind == api.Leaf {
		return Empty()
	}
	rest := bits[len(n.path):]
	side := SideOf(rest)
	below, other := n.sides[side].Without(rest[1:]), n.sides[1-side]
	if below.kind == api.Empty {
		// A branch has a key on either side: where there is none left, the other side takes its place.
		return other.moved(n.path + Sign(1-side) + other.path)
	}
	return branch(n.path, side, below, other)
}

// Find goes down as the bits say, as far as they lead: to the bottom, and the bits that are left there.
func (n *Node) Find(bits string) (*Node, string) {
	for n.leads(bits) {
		n, bits = n.below(bits)
	}
	return n, bits
}

// Way is the nodes that Find meets, from the root to the bottom, as they are written: the tree must be sealed.
func (n *Node) Way(bits string) []api.Node {
	list := []api.Node{n.told()}
	for n.leads(bits) {
		n, bits = n.below(bits)
		list = append(list, n.told())
	}
	return list
}

// leads tells whether the bits go on below the node.
func (n *Node) leads(bits string) bool {
	return n.kind == api.Branch && strings.HasPrefix(bits, n.path)
}

// below finds a bit behind the path: a key whose bits end there would be one with which others begin.
func (n *Node) below(bits string) (*Node, string) {
	rest := bits[len(n.path):]
	return n.sides[SideOf(rest)], rest[1:]
}

// Get is the key's value, and whether it has one.
func (n *Node) Get(bits string) (string, bool) {
	bottom, rest := n.Find(bits)
	if bottom.kind != api.Leaf || bottom.path != rest {
		return "", false
	}
	return bottom.value, true
}

// Walk is the keys and values, by rising keys, in new memory.
func (n *Node) Walk() []api.Pair { return n.walk("", nil) }

// walk takes the left side first: keys are ordered as their bits are.
func (n *Node) walk(above string, list []api.Pair) []api.Pair {
	path := above + n.path
	switch n.kind {
	case api.Leaf:
		list = append(list, api.Pair{Key: keys.Key(path), Value: strings.Clone(n.value)})
	case api.Branch:
		for side, below := range n.sides {
			list = below.walk(path+Sign(side), list)
		}
	}
	return list
}

// Nodes is all nodes as they are written, what is below a node ahead of it, the left side ahead of the right one: the tree must be sealed.
func (n *Node) Nodes() iter.Seq[api.Node] {
	return func(yield func(api.Node) bool) { n.each(yield) }
}

// each tells whether to go on.
func (n *Node) each(yield func(api.Node) bool) bool {
	if n.kind == api.Branch {
		for _, below := range n.sides {
			if !below.each(yield) {
				return false
			}
		}
	}
	return yield(n.told())
}
