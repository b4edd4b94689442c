package tree

import (
	"math/rand/v2"
	"reflect"
	"slices"
	"testing"

	"twig/api"
	"twig/keys"
)

func with(n *Node, pairs ...string) *Node {
	for i := 0; i < len(pairs); i += 2 {
		n = n.With(keys.Bits(pairs[i]), pairs[i+1])
	}
	return n
}

func without(n *Node, list ...string) *Node {
	for _, key := range list {
		n = n.Without(keys.Bits(key))
	}
	return n
}

func flat(n *Node) []string {
	var list []string
	for _, p := range n.Walk() {
		list = append(list, p.Key, p.Value)
	}
	return list
}

func holds(t *testing.T, n *Node, pairs ...string) {
	t.Helper()
	if got := flat(n); !slices.Equal(got, pairs) {
		t.Errorf("the tree has %q, want %q", got, pairs)
	}
}

func TestShape(t *testing.T) {
	if n := Empty(); n.kind != api.Empty || n.path != "" || n.value != "" {
		t.Errorf("Empty() = %v", *n)
	}
	one := with(Empty(), "A", "x")
	if !reflect.DeepEqual(one, leaf("1010000010", "x")) {
		t.Errorf("the tree of A alone: %v", *one)
	}
	two := branch("1010000", 0, leaf("10", "x"), leaf("00", "y"))
	for _, n := range []*Node{with(one, "B", "y"), with(Empty(), "B", "y", "A", "x"), without(with(one, "C", "z", "B", "y"), "C")} {
		if !reflect.DeepEqual(n, two) {
			t.Errorf("the tree of A and B: %v", *n)
		}
	}
	// One key begins with the other: the shorter one has no bits left behind the branch.
	if n := with(one, "AA", "y"); !reflect.DeepEqual(n, branch("101000001", 1, leaf("010000010", "y"), leaf("", "x"))) {
		t.Errorf("the tree of A and AA: %v", *n)
	}
	if n := without(two, "A"); !reflect.DeepEqual(n, leaf("1010000100", "y")) {
		t.Errorf("the tree of B alone: %v", *n)
	}
	if n := without(two, "A", "B"); !reflect.DeepEqual(n, Empty()) {
		t.Errorf("the tree of nothing: %v", *n)
	}
	// A branch takes the place of the one above it, where that has one side alone.
	if n := without(with(two, "\x41\x01", "z", "\x01", "w"), "\x01", "\x41\x01"); !reflect.DeepEqual(n, two) {
		t.Errorf("the tree of A and B, after others: %v", *n)
	}
}

// TestStays: a tree from which others came is as it was, sealed or not.
func TestStays(t *testing.T) {
	draft := with(Empty(), "A", "x", "B", "y", "\xf0", "z")
	whole := draft.Sealed(32)
	for _, n := range []*Node{draft, whole} {
		before := *n
		digest := n.Digest()
		with(n, "A", "other", "C", "new", "\x01", "new", "AA", "new", "\xf0", "other")
		without(n, "A", "B", "\xf0")
		n.Sealed(7)
		holds(t, n, "A", "x", "B", "y", "\xf0", "z")
		if *n != before || n.Digest() != digest {
			t.Errorf("the tree is changed: %v, and was %v", *n, before)
		}
	}
	if draft.sealed || draft.sides[0].sealed || draft.Digest() != 0 {
		t.Error("what was sealed is the tree itself")
	}
}

// TestCommon: what isn't on the way to a key is not made anew, and what has its digest keeps it.
func TestCommon(t *testing.T) {
	old := with(Empty(), "A", "x", "B", "y", "\xf0", "z", "\xf1", "w").Sealed(32)
	more := with(old, "\xf2", "v")
	if more.sides[0] != old.sides[0] || more.sealed {
		t.Error("a key on the right makes the left side anew")
	}
	fewer := without(old, "A")
	if fewer.sides[1] != old.sides[1] || fewer.sealed || fewer.sides[0].sealed {
		t.Error("a key gone on the left makes the right side anew")
	}
	if whole := more.Sealed(32); whole.sides[0] != old.sides[0] || old.Sealed(32) != old {
		t.Error("what was sealed is worked out again")
	}
}

func TestGet(t *testing.T) {
	n := with(Empty(), "A", "x", "AA", "", "AAAA", "y", "B", "z")
	for key, want := range map[string]string{"A": "x", "AA": "", "AAAA": "y", "B": "z"} {
		if got, there := n.Get(keys.Bits(key)); got != want || !there {
			t.Errorf("Get of %q: %q, %v", key, got, there)
		}
	}
	for _, key := range []string{"AAA", "AB", "C", "\x00", "\xff\xff\xff\xff", "BA", "@"} {
		if got, there := n.Get(keys.Bits(key)); got != "" || there {
			t.Errorf("Get of %q: %q, %v", key, got, there)
		}
		if got, there := Empty().Get(keys.Bits(key)); got != "" || there {
			t.Errorf("Get of %q from nothing: %q, %v", key, got, there)
		}
	}
}

func TestFind(t *testing.T) {
	n := with(Empty(), "A", "x", "B", "y", "C", "z")
	for _, c := range []struct {
		key, rest string
		bottom    *Node
	}{
		{"A", "10", n.sides[0]},
		{"AA", "11010000010", n.sides[0]},
		{"B", "0", n.sides[1].sides[0]},
		{"E", "1010001010", n},
		{"@", "00", n.sides[0]},
		{"\xff", "1111111110", n},
	} {
		if bottom, rest := n.Find(keys.Bits(c.key)); bottom != c.bottom || rest != c.rest {
			t.Errorf("Find of %q: %v, %s", c.key, *bottom, rest)
		}
	}
	if bottom, rest := Empty().Find("1010000010"); bottom.kind != api.Empty || rest != "1010000010" {
		t.Errorf("Find in nothing: %v, %s", *bottom, rest)
	}
}

// TestWay: the nodes that Find meets, the root first, with the digests of what is below them.
func TestWay(t *testing.T) {
	n := with(Empty(), "A", "x", "B", "y", "C", "z").Sealed(32)
	right := n.sides[1]
	for key, want := range map[string][]*Node{
		"A":    {n, n.sides[0]},
		"AA":   {n, n.sides[0]},
		"B":    {n, right, right.sides[0]},
		"C":    {n, right, right.sides[1]},
		"E":    {n},
		"\xff": {n},
	} {
		var told []api.Node
		for _, m := range want {
			told = append(told, m.told())
		}
		if got := n.Way(keys.Bits(key)); !slices.Equal(got, told) {
			t.Errorf("Way of %q: %v, want %v", key, got, told)
		}
	}
	top := api.Node{Kind: api.Branch, Path: "1010000", Left: n.sides[0].Digest(), Right: right.Digest()}
	if got := n.Way(keys.Bits("A")); got[0] != top || got[1] != (api.Node{Path: "10", Value: "x"}) {
		t.Errorf("Way of A: %v", got)
	}
	if got := Empty().Sealed(32).Way(keys.Bits("A")); !slices.Equal(got, []api.Node{{Kind: api.Empty}}) {
		t.Errorf("Way in nothing: %v", got)
	}
}

// TestOrders: the tree is one in whatever order its keys came, with others between that went again.
func TestOrders(t *testing.T) {
	list := []string{"A", "AA", "AAA", "AAAA", "B", "\x00", "\xff", "\xff\x00", "A\xff", "@", "\x80\x80"}
	passing := []string{"AB", "C", "\x00\x00", "\xfe", "AAAB"}
	var want *Node
	r := rand.New(rand.NewPCG(1, 2))
	for range 200 {
		r.Shuffle(len(list), func(i, j int) { list[i], list[j] = list[j], list[i] })
		n := Empty()
		for _, key := range list[:5] {
			n = with(n, key, "old")
		}
		for _, key := range passing {
			n = with(n, key, "passing")
		}
		n = without(n, list[2], list[0])
		for _, key := range list {
			n = with(n, key, "v"+key)
		}
		n = without(n, passing...)
		if want == nil {
			want = n
		}
		if !reflect.DeepEqual(n, want) {
			t.Fatalf("in the order %q the tree is another one", list)
		}
	}
}

// TestSealed: the digests are the same however many goroutines work them out.
func TestSealed(t *testing.T) {
	n := Empty()
	for i := range 2000 {
		n = with(n, string([]byte{byte(i * 7), byte(i >> 3), byte(i)}), "v")
	}
	want := n.seal(32, 0)
	for forks := range 7 {
		if got := n.seal(32, forks); !reflect.DeepEqual(got, want) {
			t.Errorf("with %d branches forked the tree is another one", forks)
		}
	}
	if got := n.Sealed(32); !reflect.DeepEqual(got, want) {
		t.Error("Sealed is another tree")
	}
}
