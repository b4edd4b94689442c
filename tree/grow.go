package tree

import (
	"errors"
	"strconv"

	"twig/api"
	"twig/bounds"
	"twig/keys"
	"twig/wire"
)

// The ways in which nodes can be those of no tree.
var (
	ErrMissing = errors.New("a node is missing")
	ErrOver    = errors.New("nodes are left over")
	ErrEmpty   = errors.New("an empty node below a branch")
	ErrPath    = errors.New("a path that leads to no key")
	ErrDigest  = errors.New("a digest that is not the one of the node below")
)

// grower has the nodes that are not in the tree yet.
type grower struct {
	rest []api.Node
}

// Grow is the tree, sealed, of which Nodes tells these. Each of them must have bytes.
func Grow(width int, nodes []api.Node) (*Node, error) {
	g := grower{nodes}
	root, err := g.grow("")
	if err == nil && len(g.rest) > 0 {
		err = at(len(g.rest)-1, ErrOver)
	}
	if err != nil {
		return nil, err
	}
	whole := root.Sealed(width)
	if err := whole.tells(nodes); err != nil {
		return nil, err
	}
	return whole, nil
}

// grow takes the last node, and all that is below it. So the bits above a node are known when it is met, and no way down is longer than a key's bits.
func (g *grower) grow(above string) (*Node, error) {
	last := len(g.rest) - 1
	if last < 0 {
		return nil, at(0, ErrMissing)
	}
	n := g.rest[last]
	g.rest = g.rest[:last]
	bits := above + n.Path
	switch {
	case n.Kind == api.Branch && bounds.Bits(len(bits)+1):
		return g.branch(n.Path, bits)
	case n.Kind == api.Leaf && keys.Are(bits):
		return leaf(n.Path, n.Value), nil
	case n.Kind == api.Empty && above == "":
		return Empty(), nil
	case n.Kind == api.Empty:
		return nil, at(last, ErrEmpty)
	}
	return nil, at(last, ErrPath)
}

func (g *grower) branch(path, bits string) (*Node, error) {
	right, err := g.grow(bits + Sign(1))
	if err != nil {
		return nil, err
	}
	left, err := g.grow(bits + Sign(0))
	if err != nil {
		return nil, err
	}
	return branch(path, 0, left, right), nil
}

// tells holds the tree's nodes against as many others.
func (n *Node) tells(nodes []api.Node) error {
	i := 0
	for told := range n.Nodes() {
		if told != nodes[i] {
			return at(i, ErrDigest)
		}
		i++
	}
	return nil
}

func at(index int, err error) error {
	return wire.Fault{Place: "node " + strconv.Itoa(index), Err: err}
}
