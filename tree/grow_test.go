package tree

import (
	"errors"
	"reflect"
	"slices"
	"strings"
	"testing"

	"twig/api"
)

func nodesOf(n *Node) []api.Node { return slices.Collect(n.Nodes()) }

// TestNodes: what is below a node stands ahead of it, the left side ahead of the right one.
func TestNodes(t *testing.T) {
	n := with(Empty(), "A", "x", "B", "y", "C", "z").Sealed(32)
	right := n.sides[1]
	want := []api.Node{n.sides[0].told(), right.sides[0].told(), right.sides[1].told(), right.told(), n.told()}
	if got := nodesOf(n); !slices.Equal(got, want) {
		t.Errorf("Nodes: %v, want %v", got, want)
	}
	if got := nodesOf(Empty().Sealed(32)); !slices.Equal(got, []api.Node{{Kind: api.Empty}}) {
		t.Errorf("Nodes of nothing: %v", got)
	}
	for most := 1; most <= len(want); most++ {
		var got []api.Node
		for told := range n.Nodes() {
			got = append(got, told)
			if len(got) == most {
				break
			}
		}
		if !slices.Equal(got, want[:most]) {
			t.Errorf("the first %d nodes: %v, want %v", most, got, want[:most])
		}
	}
}

// TestGrow: a tree grows again of its nodes, which stay as they are.
func TestGrow(t *testing.T) {
	many := Empty()
	for i := range 700 {
		many = with(many, string([]byte{byte(i * 7), byte(i >> 3), byte(i)}[:1+i%3]), strings.Repeat("v", i%21))
	}
	for _, width := range []int{1, 9, 32} {
		for _, n := range []*Node{Empty(), with(Empty(), "A", ""), with(Empty(), "A", "x", "B", "y"), with(Empty(), "A", "x", "AA", "y", "AAAA", "z", "\xff\xff\xff\xff", "w"), many} {
			want := n.Sealed(width)
			nodes := nodesOf(want)
			kept := slices.Clone(nodes)
			if got, err := Grow(width, nodes); !reflect.DeepEqual(got, want) || err != nil {
				t.Errorf("of width %d another tree of %d nodes, %v", width, len(nodes), err)
			}
			if !slices.Equal(nodes, kept) {
				t.Errorf("the nodes are changed: %v", nodes)
			}
		}
	}
}

type growCase struct {
	nodes []api.Node
	want  error
	place string
}

// growCases are of the nodes of "A" and "B": the leaves, and the branch above them.
func growCases() []growCase {
	nodes := nodesOf(with(Empty(), "A", "x", "B", "y").Sealed(32))
	empty, a := api.Node{Kind: api.Empty}, api.Node{Path: "1010000010", Value: "x"}
	changed := func(index int, change func(*api.Node)) []api.Node {
		list := slices.Clone(nodes)
		change(&list[index])
		return list
	}
	return []growCase{
		{nil, ErrMissing, "node 0"},
		{nodes[2:], ErrMissing, "node 0"},
		{nodes[1:], ErrMissing, "node 0"},
		{[]api.Node{nodes[0], nodes[2]}, ErrMissing, "node 0"},
		{[]api.Node{empty, empty}, ErrOver, "node 0"},
		{[]api.Node{empty, a}, ErrOver, "node 0"},
		{[]api.Node{a, empty}, ErrOver, "node 0"},
		{slices.Insert(slices.Clone(nodes), 0, nodes...), ErrOver, "node 2"},
		{slices.Insert(slices.Clone(nodes), 0, a), ErrOver, "node 0"},
		{changed(0, func(n *api.Node) { *n = empty }), ErrEmpty, "node 0"},
		{changed(1, func(n *api.Node) { *n = empty }), ErrEmpty, "node 1"},
		{nodes[:1], ErrPath, "node 0"},
		{nodes[:2], ErrPath, "node 1"},
		{changed(0, func(n *api.Node) { n.Path = "1" }), ErrPath, "node 0"},
		{changed(0, func(n *api.Node) { n.Path = "11" }), ErrPath, "node 0"},
		{changed(1, func(n *api.Node) { n.Path += "0" }), ErrPath, "node 1"},
		{changed(2, func(n *api.Node) { n.Path += "0" }), ErrPath, "node 1"},
		{changed(2, func(n *api.Node) { n.Path = strings.Repeat("1", 37) }), ErrPath, "node 2"},
		{changed(2, func(n *api.Node) { n.Path = strings.Repeat("1", 36) }), ErrPath, "node 1"},
		{changed(2, func(n *api.Node) { n.Left++ }), ErrDigest, "node 2"},
		{changed(2, func(n *api.Node) { n.Right ^= 1 << 31 }), ErrDigest, "node 2"},
		{changed(2, func(n *api.Node) { n.Left, n.Right = n.Right, n.Left }), ErrDigest, "node 2"},
		{changed(0, func(n *api.Node) { n.Value = "z" }), ErrDigest, "node 2"},
		{changed(1, func(n *api.Node) { n.Path = "10" }), ErrDigest, "node 2"},
		{[]api.Node{nodes[1], nodes[0], nodes[2]}, ErrDigest, "node 2"},
	}
}

// TestGrowNoTree: for each way in which nodes are those of no tree its own error, and where it was met.
func TestGrowNoTree(t *testing.T) {
	ways := []error{ErrMissing, ErrOver, ErrEmpty, ErrPath, ErrDigest}
	for i, c := range growCases() {
		n, err := Grow(32, c.nodes)
		if n != nil || err == nil || err.Error() != c.place+": "+c.want.Error() {
			t.Errorf("%d: %v, want %s: %v", i, err, c.place, c.want)
			continue
		}
		for _, way := range ways {
			if errors.Is(err, way) != (way == c.want) {
				t.Errorf("%d: %v is taken for %v, or not", i, err, way)
			}
		}
	}
}

// TestGrowOtherWidth: the digests of a tree are of one width.
func TestGrowOtherWidth(t *testing.T) {
	nodes := nodesOf(with(Empty(), "A", "x", "B", "y").Sealed(32))
	if n, err := Grow(31, nodes); n != nil || !errors.Is(err, ErrDigest) {
		t.Errorf("of another width: %v", err)
	}
}

// TestDeepComb: branches without paths one above the other, as many as a key has bits, and more: the way down ends all the same.
func TestDeepComb(t *testing.T) {
	for _, steps := range []int{36, 37, 38, 20000} {
		nodes := []api.Node{{Kind: api.Leaf}}
		for range steps {
			nodes = append(nodes, api.Node{Kind: api.Leaf}, api.Node{Kind: api.Branch})
		}
		if n, err := Grow(32, nodes); n != nil || !errors.Is(err, ErrPath) {
			t.Errorf("of %d steps: %v", steps, err)
		}
	}
}
