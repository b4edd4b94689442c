package wire

import (
	"iter"
	"strconv"

	"twig/api"
	"twig/bounds"
)

// Stream writes the nodes one behind the other. It stops where these are more bytes than all chunks may have: a tree can be of any size.
func Stream(nodes iter.Seq[api.Node]) (string, error) {
	var out []byte
	for n := range nodes {
		out = addText(out, Node(n))
		if !bounds.Total(len(out)) {
			return "", at("stream", ErrNoBytes)
		}
	}
	return string(out), nil
}

// DecodeStream reads nodes up to the end of the bytes, whatever they are together.
func DecodeStream(b string) ([]api.Node, error) {
	var list []api.Node
	for r := (reader{b}); r.rest != ""; {
		n, err := r.sized()
		if err != nil {
			return nil, at("stream", at("number "+strconv.Itoa(len(list)), err))
		}
		list = append(list, n)
	}
	return list, nil
}
