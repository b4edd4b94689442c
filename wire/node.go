// Package wire writes nodes, proofs, manifests and streams of nodes as bytes, and reads them back. What is written has one form only: what is not just that form is refused.
package wire

import (
	"twig/api"
	"twig/bounds"
)

// EncodeNode writes a node.
func EncodeNode(n api.Node) (string, error) {
	if err := checkNode(n); err != nil {
		return "", at("node", err)
	}
	return Node(n), nil
}

// Node leaves it to the caller that the node has bytes, as each of a tree has.
func Node(n api.Node) string {
	out := []byte{byte(n.Kind)}
	switch n.Kind {
	case api.Leaf:
		out = addText(addPath(out, n.Path), n.Value)
	case api.Branch:
		out = addFour(addFour(addPath(out, n.Path), n.Left), n.Right)
	}
	return string(out)
}

// checkNode holds the node against one that has only what its kind has: so nothing else is left in it.
func checkNode(n api.Node) error {
	pure := api.Node{Kind: n.Kind}
	switch n.Kind {
	case api.Leaf:
		pure.Path, pure.Value = n.Path, n.Value
	case api.Branch:
		pure.Path, pure.Left, pure.Right = n.Path, n.Left, n.Right
	case api.Empty:
	default:
		return at("kind", ErrNoBytes)
	}
	switch {
	case n != pure:
		return at("fields of another kind", ErrNoBytes)
	case !bounds.Path(n.Path):
		return at("path", ErrNoBytes)
	case !bounds.Length(len(n.Value)):
		return at("value", ErrNoBytes)
	case !bounds.Four(n.Left):
		return at("left", ErrNoBytes)
	case !bounds.Four(n.Right):
		return at("right", ErrNoBytes)
	}
	return nil
}

// DecodeNode reads a node, of all the bytes.
func DecodeNode(b string) (api.Node, error) {
	r := reader{b}
	n, err := r.node()
	if err == nil {
		err = r.end()
	}
	if err != nil {
		return api.Node{}, at("node", err)
	}
	return n, nil
}

func (r *reader) node() (api.Node, error) {
	kind, err := r.single()
	if err != nil {
		return api.Node{}, at("kind", err)
	}
	switch kind {
	case api.Leaf:
		return r.leaf()
	case api.Branch:
		return r.branch()
	case api.Empty:
		return api.Node{Kind: api.Empty}, nil
	}
	return api.Node{}, at("kind", ErrKind)
}

func (r *reader) leaf() (api.Node, error) {
	path, err := r.path()
	if err != nil {
		return api.Node{}, at("path", err)
	}
	value, err := r.value()
	if err != nil {
		return api.Node{}, at("value", err)
	}
	return api.Node{Kind: api.Leaf, Path: path, Value: value}, nil
}

func (r *reader) branch() (api.Node, error) {
	path, err := r.path()
	if err != nil {
		return api.Node{}, at("path", err)
	}
	left, err := r.four()
	if err != nil {
		return api.Node{}, at("left", err)
	}
	right, err := r.four()
	if err != nil {
		return api.Node{}, at("right", err)
	}
	return api.Node{Kind: api.Branch, Path: path, Left: left, Right: right}, nil
}

// sized is a node with the number of its bytes ahead of it.
func (r *reader) sized() (api.Node, error) {
	count, err := r.number()
	if err != nil {
		return api.Node{}, at("number of bytes", err)
	}
	b, err := r.take(count)
	if err != nil {
		return api.Node{}, at("bytes", err)
	}
	return DecodeNode(b)
}
