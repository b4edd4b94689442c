// Package chunks cuts what goes to another store in chunks, and puts chunks together again.
package chunks

import (
	"errors"
	"slices"
	"strconv"
	"strings"
	"sync"

	"twig/api"
	"twig/bounds"
	"twig/digest"
	"twig/tree"
	"twig/wire"
)

// The ways in which a chunk, or all of them together, can be wrong, beside those of the bytes and of the nodes in them.
var (
	ErrIndex   = errors.New("no chunk has that number")
	ErrLength  = errors.New("a chunk of another length")
	ErrDigest  = errors.New("a chunk of another digest")
	ErrMissing = errors.New("a chunk is missing")
	ErrRoot    = errors.New("the tree has another root")
)

// Cut is the bytes in chunks of size bytes; the last one may be shorter.
func Cut(b string, size int) []string {
	var list []string
	for b != "" {
		count := min(size, len(b))
		list = append(list, b[:count])
		b = b[count:]
	}
	return list
}

// Digests has each chunk's worked out by a goroutine of its own.
func Digests(width int, list []string) []int {
	digests := make([]int, len(list))
	var all sync.WaitGroup
	for i, chunk := range list {
		all.Add(1)
		go func() {
			defer all.Done()
			digests[i] = digest.Of(width, chunk)
		}()
	}
	all.Wait()
	return digests
}

// Set is the chunks of a manifest that are there so far: "" stands for one that is missing, as each has a byte at least.
type Set struct {
	manifest api.Manifest
	chunks   []string
}

// Begin leaves it to the caller that the manifest has bytes, and that nothing else keeps its list.
func Begin(m api.Manifest) Set {
	return Set{m, make([]string, len(m.Digests))}
}

// Width is that of the digests.
func (s *Set) Width() int { return s.manifest.Width }

// Put takes a chunk, in the place of the one that was there: there can be several of one digest.
func (s *Set) Put(index int, chunk string) error {
	if err := s.check(index, chunk); err != nil {
		return at(index, err)
	}
	s.chunks[index] = strings.Clone(chunk)
	return nil
}

// check asks for the number first: nothing else can be asked of a chunk that the manifest does not have.
func (s *Set) check(index int, chunk string) error {
	m := s.manifest
	switch {
	case !bounds.Index(index, len(s.chunks)):
		return ErrIndex
	case len(chunk) != length(m.Total, m.Size, index):
		return ErrLength
	case digest.Of(m.Width, chunk) != m.Digests[index]:
		return ErrDigest
	}
	return nil
}

// length is how many bytes a chunk has: the last one has what the others leave.
func length(total, size, index int) int { return min(size, total-index*size) }

// Tree is the one that the chunks tell, sealed. Nothing of them is in it.
func (s *Set) Tree() (*tree.Node, error) {
	if i := slices.Index(s.chunks, ""); i >= 0 {
		return nil, at(i, ErrMissing)
	}
	nodes, err := wire.DecodeStream(strings.Join(s.chunks, ""))
	if err != nil {
		return nil, err
	}
	root, err := tree.Grow(s.manifest.Width, nodes)
	if err != nil {
		return nil, err
	}
	if root.Digest() != s.manifest.Root {
		return nil, ErrRoot
	}
	return root, nil
}

func at(index int, err error) error {
	return wire.Fault{Place: "chunk " + strconv.Itoa(index), Err: err}
}
