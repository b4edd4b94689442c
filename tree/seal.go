package tree

import (
	"sync"

	"twig/api"
	"twig/digest"
	"twig/wire"
)

// high is how many branches, from the root down, have each of their sides worked out by a goroutine of its own: more of them would cost more than they save.
const high = 3

// Sealed is the tree with the digests of all its nodes. What has its digest already is not worked out again; what has none yet is made anew, as a tree is never changed.
func (n *Node) Sealed(width int) *Node { return n.seal(width, high) }

// Digest is of a node that is sealed.
func (n *Node) Digest() int { return n.digest }

func (n *Node) seal(width, forks int) *Node {
	if n.sealed {
		return n
	}
	whole := &Node{kind: n.kind, path: n.path, value: n.value, sides: n.sides, sealed: true}
	if n.kind == api.Branch {
		sealSides(whole.sides[:], width, forks)
	}
	whole.digest = digest.Of(width, wire.Node(whole.told()))
	return whole
}

// sealSides puts what is sealed in the place of each of the nodes.
func sealSides(sides []*Node, width, forks int) {
	if forks == 0 {
		for i, side := range sides {
			sides[i] = side.seal(width, 0)
		}
		return
	}
	var all sync.WaitGroup
	for i := range sides {
		all.Add(1)
		go func() {
			defer all.Done()
			sides[i] = sides[i].seal(width, forks-1)
		}()
	}
	all.Wait()
}

// told is the node as it is written: of a branch its sides must be sealed.
func (n *Node) told() api.Node {
	told := api.Node{Kind: n.kind, Path: n.path, Value: n.value}
	if n.kind == api.Branch {
		told.Left, told.Right = n.sides[0].digest, n.sides[1].digest
	}
	return told
}
