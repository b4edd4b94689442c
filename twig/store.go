package twig

import (
	"maps"
	"slices"
	"strings"

	"twig/api"
	"twig/bounds"
	"twig/keys"
	"twig/tree"
)

// Store is keys and values, in versions. Its base stays when the version is pruned: it is what there is now, but for the changes.
type Store struct {
	width    int
	base     *tree.Node        // the version that was made or loaded last
	changes  map[string]change // by key, what is not as in base
	versions map[int]*tree.Node
	newest   int
}

// change is what a key has now, if anything.
type change struct {
	value string
	there bool
}

// New makes an empty store (P5).
func New(width int) (*Store, api.Errno) {
	if !bounds.Width(width) {
		return nil, api.ErrWidth
	}
	return fresh(width), api.OK
}

func fresh(width int) *Store {
	return &Store{
		width:    width,
		base:     tree.Empty(),
		changes:  map[string]change{},
		versions: map[int]*tree.Node{},
	}
}

// Set gives a key a value (P6).
func (s *Store) Set(key string, value string) api.Errno {
	switch {
	case s == nil:
		return api.ErrNil
	case !bounds.Key(len(key)):
		return api.ErrKey
	case !bounds.Length(len(value)):
		return api.ErrValue
	}
	s.changes[strings.Clone(key)] = change{strings.Clone(value), true}
	return api.OK
}

// Delete takes a key's value away (P6).
func (s *Store) Delete(key string) api.Errno {
	if _, e := s.Get(key); e != api.OK {
		return e
	}
	if _, there := s.base.Get(keys.Bits(key)); there {
		s.changes[strings.Clone(key)] = change{}
	} else {
		delete(s.changes, key)
	}
	return api.OK
}

// Get tells a key's value (P6).
func (s *Store) Get(key string) (string, api.Errno) {
	switch {
	case s == nil:
		return "", api.ErrNil
	case !bounds.Key(len(key)):
		return "", api.ErrKey
	}
	value, there := s.now(key)
	if !there {
		return "", api.ErrNone
	}
	return strings.Clone(value), api.OK
}

func (s *Store) now(key string) (string, bool) {
	if c, changed := s.changes[key]; changed {
		return c.value, c.there
	}
	return s.base.Get(keys.Bits(key))
}

// Commit makes a version (P7).
func (s *Store) Commit() (int, int, api.Errno) {
	if s == nil {
		return 0, 0, api.ErrNil
	}
	root := s.base
	for _, key := range slices.Sorted(maps.Keys(s.changes)) {
		root = s.changes[key].in(root, keys.Bits(key))
	}
	s.keep(root.Sealed(s.width))
	return s.newest, s.base.Digest(), api.OK
}

// keep makes a version of a tree that is sealed.
func (s *Store) keep(root *tree.Node) {
	s.begin(root)
	s.newest++
	s.versions[s.newest] = root
}

// in is the tree in which the key has what the change tells.
func (c change) in(root *tree.Node, bits string) *tree.Node {
	if c.there {
		return root.With(bits, c.value)
	}
	return root.Without(bits)
}

// begin leaves nothing of the changes: they were of the base before.
func (s *Store) begin(base *tree.Node) {
	s.base = base
	clear(s.changes)
}

// Load goes back to a version (P7).
func (s *Store) Load(version int) api.Errno {
	root, e := s.version(version)
	if e != api.OK {
		return e
	}
	s.begin(root)
	return api.OK
}

// Prune forgets a version (P7).
func (s *Store) Prune(version int) api.Errno {
	if _, e := s.version(version); e != api.OK {
		return e
	}
	delete(s.versions, version)
	return api.OK
}

// version is a version's tree, for all the calls that ask for one.
func (s *Store) version(n int) (*tree.Node, api.Errno) {
	if s == nil {
		return nil, api.ErrNil
	}
	if root, kept := s.versions[n]; kept {
		return root, api.OK
	}
	if bounds.Version(n, s.newest) {
		return nil, api.ErrPruned
	}
	return nil, api.ErrVersion
}

// Root tells a version's root (P8).
func (s *Store) Root(version int) (int, api.Errno) {
	root, e := s.version(version)
	if e != api.OK {
		return 0, e
	}
	return root.Digest(), api.OK
}

// Walk tells a version's keys and values (P8).
func (s *Store) Walk(version int) ([]api.Pair, api.Errno) {
	root, e := s.version(version)
	if e != api.OK {
		return nil, e
	}
	return root.Walk(), api.OK
}
