package twig

import (
	"twig/api"
	"twig/bounds"
	"twig/chunks"
	"twig/wire"
)

// Export tells a version as a manifest and chunks (P12).
func (s *Store) Export(version int, size int) (string, []string, api.Errno) {
	root, e := s.version(version)
	if e != api.OK {
		return "", nil, e
	}
	if !bounds.Size(size) {
		return "", nil, api.ErrSize
	}
	stream, err := wire.Stream(root.Nodes())
	if err != nil {
		return "", nil, api.ErrSize
	}
	list := chunks.Cut(stream, size)
	return wire.Manifest(api.Manifest{
		Width:   s.width,
		Root:    root.Digest(),
		Size:    size,
		Total:   len(stream),
		Digests: chunks.Digests(s.width, list),
	}), list, api.OK
}
