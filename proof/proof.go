// Package proof makes proofs of what a key has in a tree, and tells what a proof proves to who has the root alone. Keys are told by their bits.
package proof

import (
	"errors"
	"slices"
	"strings"

	"twig/api"
	"twig/digest"
	"twig/tree"
	"twig/wire"
)

// The ways in which a proof can prove nothing about a key.
var (
	ErrWay    = errors.New("the way is not the key's")
	ErrBottom = errors.New("the bottom leaves it open what the key has")
	ErrRoot   = errors.New("the steps end at another root")
)

// Claim is what a key has: a value, or, if it is not there, none.
type Claim struct {
	Value string
	There bool
}

// Make is the proof of what the key has in a tree that is sealed.
func Make(root *tree.Node, bits string) api.Proof {
	met := root.Way(bits)
	bottom := len(met) - 1
	ups := make([]api.Up, bottom)
	for i, n := range met[:bottom] {
		bits = bits[len(n.Path):]
		ups[bottom-1-i] = step(n, tree.SideOf(bits))
		bits = bits[1:]
	}
	return api.Proof{Bottom: met[bottom], Ups: ups}
}

// step leads up to the branch from the node on that side.
func step(n api.Node, side int) api.Up {
	digests := [2]int{n.Left, n.Right}
	return api.Up{Side: side, Path: n.Path, Other: digests[1-side]}
}

// branch is the one that a step makes, of the digest of the node below it.
func branch(up api.Up, below int) api.Node {
	var digests [2]int
	digests[up.Side], digests[1-up.Side] = below, up.Other
	return api.Node{Kind: api.Branch, Path: up.Path, Left: digests[0], Right: digests[1]}
}

// Check is what a proof that has bytes proves about the key.
func Check(width, root int, bits string, p api.Proof) (Claim, error) {
	rest, begins := strings.CutPrefix(bits, way(p.Ups))
	if !begins {
		return Claim{}, ErrWay
	}
	claim, err := claimed(p, rest)
	if err != nil {
		return Claim{}, err
	}
	if digestOf(width, nodes(width, p)[0]) != root {
		return Claim{}, ErrRoot
	}
	return claim, nil
}

// way is the bits that lead from the root to the bottom.
func way(ups []api.Up) string {
	bits := ""
	for _, up := range slices.Backward(ups) {
		bits += up.Path + tree.Sign(up.Side)
	}
	return bits
}

// claimed is what the bottom tells about the key of which these bits are left. An empty node is a whole tree, or none.
func claimed(p api.Proof, rest string) (Claim, error) {
	bottom := p.Bottom
	switch bottom.Kind {
	case api.Leaf:
		if bottom.Path == rest {
			return Claim{bottom.Value, true}, nil
		}
	case api.Branch:
		if strings.HasPrefix(rest, bottom.Path) {
			return Claim{}, ErrBottom
		}
	case api.Empty:
		if len(p.Ups) > 0 {
			return Claim{}, ErrBottom
		}
	}
	return Claim{}, nil
}

// nodes is the branches that the steps make, from the root down, and the bottom.
func nodes(width int, p api.Proof) []api.Node {
	list := []api.Node{p.Bottom}
	for i, up := range p.Ups {
		list = append(list, branch(up, digestOf(width, list[i])))
	}
	slices.Reverse(list)
	return list
}

func digestOf(width int, n api.Node) int { return digest.Of(width, wire.Node(n)) }

// Part is, from the root down, the bytes of the first two nodes that are not the same, the proof's and the tree's. If the proof holds for the tree's root, both have one digest; if what it claims is wrong in the tree, there are two.
func Part(width int, bits string, p api.Proof, root *tree.Node) (string, string) {
	told, kept := nodes(width, p), root.Way(bits)
	for i := range min(len(told), len(kept)) {
		if told[i] != kept[i] {
			return wire.Node(told[i]), wire.Node(kept[i])
		}
	}
	return "", ""
}
