package twig

import (
	"fmt"
	"maps"
	"slices"
	"strings"
	"testing"

	"twig/api"
)

// model is keys with values; its root is worked out anew from the document's words, without the program's trees.
type model map[string]string

func (m model) root(t *testing.T, width int) int {
	t.Helper()
	return nodeDigest(t, width, m.tree(t, width).n)
}

func modelBits(key string) string {
	bits := ""
	for _, b := range []byte(key) {
		bits += fmt.Sprintf("1%08b", b)
	}
	return bits + "0"
}

func nodeDigest(t *testing.T, width int, n api.Node) int {
	t.Helper()
	b, e := EncodeNode(n)
	d, f := Digest(width, b)
	if e != api.OK || f != api.OK {
		t.Fatalf("of %v: %d, %d", n, e, f)
	}
	return d
}

// modelNode is a node, and the two of which a branch has the digests.
type modelNode struct {
	n     api.Node
	sides [2]*modelNode
}

func (m model) tree(t *testing.T, width int) *modelNode {
	t.Helper()
	var list [][2]string
	for _, key := range slices.Sorted(maps.Keys(m)) {
		list = append(list, [2]string{modelBits(key), m[key]})
	}
	return modelTree(t, width, list)
}

// modelTree is the tree of the bits with values, in their order.
func modelTree(t *testing.T, width int, list [][2]string) *modelNode {
	t.Helper()
	switch len(list) {
	case 0:
		return &modelNode{n: emptyNode()}
	case 1:
		return &modelNode{n: api.Node{Kind: api.Leaf, Path: list[0][0], Value: list[0][1]}}
	}
	path := list[0][0]
	for _, l := range list {
		for !strings.HasPrefix(l[0], path) {
			path = path[:len(path)-1]
		}
	}
	var sides [2][][2]string
	for _, l := range list {
		side := l[0][len(path)] - '0'
		sides[side] = append(sides[side], [2]string{l[0][len(path)+1:], l[1]})
	}
	left, right := modelTree(t, width, sides[0]), modelTree(t, width, sides[1])
	n := api.Node{Kind: api.Branch, Path: path, Left: nodeDigest(t, width, left.n), Right: nodeDigest(t, width, right.n)}
	return &modelNode{n, [2]*modelNode{left, right}}
}

func (m model) pairs() []api.Pair {
	var list []api.Pair
	for _, key := range slices.Sorted(maps.Keys(m)) {
		list = append(list, api.Pair{Key: key, Value: m[key]})
	}
	return list
}

// same holds the keys and values that there are now against the model's; of the other keys, those that the model has not must have none.
func (m model) same(t *testing.T, s *Store, others ...string) {
	t.Helper()
	for key, want := range m {
		if got, e := s.Get(key); got != want || e != api.OK {
			t.Errorf("P6: Get(%q) = %q, %d, want %q", key, got, e, want)
		}
	}
	for _, key := range others {
		if _, there := m[key]; there {
			continue
		}
		if got, e := s.Get(key); got != "" || e != api.ErrNone {
			t.Errorf("P6: Get(%q) = %q, %d, want none", key, got, e)
		}
	}
}

// sameVersion holds a version's root and walk against the model's.
func (m model) sameVersion(t *testing.T, s *Store, width, version int) {
	t.Helper()
	if got, e := s.Root(version); got != m.root(t, width) || e != api.OK {
		t.Errorf("P8: Root(%d) = %d, %d, want %d", version, got, e, m.root(t, width))
	}
	if got, e := s.Walk(version); !slices.Equal(got, m.pairs()) || e != api.OK {
		t.Errorf("P8: Walk(%d) = %q, %d, want %q", version, got, e, m.pairs())
	}
}

// newStore is of the model's keys and values.
func newStore(t *testing.T, width int, m model) *Store {
	t.Helper()
	s, e := New(width)
	if s == nil || e != api.OK {
		t.Fatalf("P5: New(%d): %d", width, e)
	}
	for key, value := range m {
		answers(t, "P6: Set", s.Set(key, value), api.OK)
	}
	return s
}

func answers(t *testing.T, call string, got, want api.Errno) {
	t.Helper()
	if got != want {
		t.Errorf("%s: %d, want %d", call, got, want)
	}
}

// commits expects the number, and the root of the model.
func (m model) commits(t *testing.T, s *Store, width, version int) {
	t.Helper()
	if n, root, e := s.Commit(); n != version || root != m.root(t, width) || e != api.OK {
		t.Errorf("P7: Commit = %d, %d, %d, want %d, %d", n, root, e, version, m.root(t, width))
	}
}
