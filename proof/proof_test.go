package proof

import (
	"errors"
	"reflect"
	"strconv"
	"testing"

	"twig/api"
	"twig/keys"
	"twig/tree"
	"twig/wire"
)

func sealed(width int, pairs ...string) *tree.Node {
	n := tree.Empty()
	for i := 0; i < len(pairs); i += 2 {
		n = n.With(keys.Bits(pairs[i]), pairs[i+1])
	}
	return n.Sealed(width)
}

func empty() api.Node { return api.Node{Kind: api.Empty} }

func TestMake(t *testing.T) {
	left, right := api.Node{Path: "10", Value: "x"}, api.Node{Path: "00", Value: "y"}
	one, two := digestOf(32, left), digestOf(32, right)
	top := api.Node{Kind: api.Branch, Path: "1010000", Left: one, Right: two}
	both := sealed(32, "A", "x", "B", "y")
	for _, c := range []struct {
		root *tree.Node
		key  string
		want api.Proof
	}{
		{sealed(32), "A", api.Proof{Bottom: empty(), Ups: []api.Up{}}},
		{sealed(32, "A", "x"), "B", api.Proof{Bottom: api.Node{Path: "1010000010", Value: "x"}, Ups: []api.Up{}}},
		{both, "A", api.Proof{Bottom: left, Ups: []api.Up{{Side: 0, Path: "1010000", Other: two}}}},
		{both, "@", api.Proof{Bottom: left, Ups: []api.Up{{Side: 0, Path: "1010000", Other: two}}}},
		{both, "B", api.Proof{Bottom: right, Ups: []api.Up{{Side: 1, Path: "1010000", Other: one}}}},
		{both, "\xff", api.Proof{Bottom: top, Ups: []api.Up{}}},
	} {
		if got := Make(c.root, keys.Bits(c.key)); !reflect.DeepEqual(got, c.want) {
			t.Errorf("Make of %q: %v, want %v", c.key, got, c.want)
		}
	}
}

// TestLowestFirst: the steps stand from the lowest to the topmost one, each with the digest of the other side.
func TestLowestFirst(t *testing.T) {
	root := sealed(32, "A", "x", "B", "y", "C", "z")
	p := Make(root, keys.Bits("C"))
	top, below := root.Way(keys.Bits("C"))[0], root.Way(keys.Bits("C"))[1]
	want := []api.Up{{Side: 1, Path: "", Other: below.Left}, {Side: 1, Path: "1010000", Other: top.Left}}
	if !reflect.DeepEqual(p.Ups, want) {
		t.Errorf("the steps are %v, want %v", p.Ups, want)
	}
	if got := nodes(32, p); !reflect.DeepEqual(got, root.Way(keys.Bits("C"))) {
		t.Errorf("the steps make %v", got)
	}
}

// TestCheck: for each way in which a proof proves nothing its own error.
func TestCheck(t *testing.T) {
	leaf := api.Node{Path: "10", Value: "x"}
	up := api.Up{Side: 0, Path: "1010000", Other: 7}
	for _, c := range []struct {
		p    api.Proof
		off  int
		want Claim
		err  error
	}{
		{api.Proof{Bottom: leaf, Ups: []api.Up{up}}, 0, Claim{"x", true}, nil},
		{api.Proof{Bottom: api.Node{Path: "100", Value: "x"}, Ups: []api.Up{up}}, 0, Claim{}, nil},
		{api.Proof{Bottom: api.Node{Kind: api.Branch, Path: "11"}, Ups: []api.Up{up}}, 0, Claim{}, nil},
		{api.Proof{Bottom: empty()}, 0, Claim{}, nil},
		{api.Proof{Bottom: leaf, Ups: []api.Up{{Side: 1, Path: "1010000"}}}, 0, Claim{}, ErrWay},
		{api.Proof{Bottom: leaf, Ups: []api.Up{up, up}}, 0, Claim{}, ErrWay},
		{api.Proof{Bottom: empty(), Ups: []api.Up{up}}, 0, Claim{}, ErrBottom},
		{api.Proof{Bottom: api.Node{Kind: api.Branch, Path: "10"}, Ups: []api.Up{up}}, 0, Claim{}, ErrBottom},
		{api.Proof{Bottom: leaf, Ups: []api.Up{up}}, 1, Claim{}, ErrRoot},
		{api.Proof{Bottom: empty()}, -1, Claim{}, ErrRoot},
	} {
		for _, width := range []int{1, 8, 32} {
			root := digestOf(width, nodes(width, c.p)[0]) + c.off
			if got, err := Check(width, root, keys.Bits("A"), c.p); got != c.want || !errors.Is(err, c.err) {
				t.Errorf("Check of %v, width %d: %v, %v, want %v, %v", c.p, width, got, err, c.want, c.err)
			}
		}
	}
}

// twin is another node than n, with the same digest.
func twin(t *testing.T, width int, n api.Node, change func(*api.Node, int)) api.Node {
	t.Helper()
	for i := range 1 << 10 {
		other := n
		change(&other, i)
		if other != n && digestOf(width, other) == digestOf(width, n) {
			return other
		}
	}
	t.Fatalf("no other node has the digest of %v", n)
	return n
}

// TestPart: the first difference is at the top, at the bottom, or between; what is below it makes no difference.
func TestPart(t *testing.T) {
	const width = 4
	root := sealed(width, "A", "x", "B", "y", "C", "z")
	bits := keys.Bits("B")
	way := root.Way(bits)
	top := twin(t, width, way[0], func(n *api.Node, i int) { n.Left = i })
	mid := twin(t, width, way[1], func(n *api.Node, i int) { n.Right = i })
	bottom := twin(t, width, way[2], func(n *api.Node, i int) { n.Value = strconv.Itoa(i) })
	for _, c := range []struct {
		place            int
		top, mid, bottom api.Node
	}{
		{0, top, way[1], way[2]}, {0, top, mid, way[2]}, {0, top, way[1], bottom}, {0, top, mid, bottom},
		{1, way[0], mid, way[2]}, {1, way[0], mid, bottom},
		{2, way[0], way[1], bottom},
	} {
		p := Make(root, bits)
		p.Ups[1].Other, p.Ups[0].Other, p.Bottom = c.top.Left, c.mid.Right, c.bottom
		told, kept := Part(width, bits, p, root)
		want := []api.Node{c.top, c.mid, c.bottom}[c.place]
		if told != wire.Node(want) || kept != wire.Node(way[c.place]) {
			t.Errorf("%d: Part = %x, %x, want the bytes of %v, %v", c.place, told, kept, want, way[c.place])
		}
	}
	if told, kept := Part(width, bits, Make(root, bits), root); told != "" || kept != "" {
		t.Errorf("the right proof has %x, and the tree %x", told, kept)
	}
}

// TestPartOfOtherShapes: what stands in the place of a node may be one of another kind, and end a way that goes on in the tree, or go on where that ends.
func TestPartOfOtherShapes(t *testing.T) {
	const width = 3
	bits := keys.Bits("B")
	up := api.Up{Side: 1, Path: "1010000"}
	for _, root := range []*tree.Node{sealed(width), sealed(width, "B", "y"), sealed(width, "A", "x", "B", "y", "C", "z")} {
		kept := root.Way(bits)[0]
		for _, p := range []api.Proof{
			{Bottom: empty()}, {Bottom: api.Node{Path: bits, Value: "other"}}, {Bottom: api.Node{Kind: api.Branch, Path: "0"}},
			{Bottom: api.Node{Path: "00", Value: "other"}, Ups: []api.Up{up}},
		} {
			want := nodes(width, p)[0]
			if want == kept {
				continue
			}
			if a, b := Part(width, bits, p, root); a != wire.Node(want) || b != wire.Node(kept) {
				t.Errorf("Part of %v = %x, %x, want the bytes of %v, %v", p, a, b, want, kept)
			}
		}
	}
}
