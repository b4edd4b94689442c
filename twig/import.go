package twig

import (
	"twig/api"
	"twig/chunks"
	"twig/wire"
)

// Import takes chunks in.
type Import struct {
	set chunks.Set
}

// NewImport begins to take chunks in (P13).
func NewImport(manifest string) (*Import, api.Errno) {
	m, err := wire.DecodeManifest(manifest)
	if err != nil {
		return nil, errno(err)
	}
	return &Import{chunks.Begin(m)}, api.OK
}

// Offer hands a chunk in (P13).
func (i *Import) Offer(index int, chunk string) api.Errno {
	if i == nil {
		return api.ErrNil
	}
	return importErrno(i.set.Put(index, chunk))
}

// Finish makes a store of the chunks (P14). The tree is made anew each time, so that no two stores have anything in common.
func (i *Import) Finish() (*Store, api.Errno) {
	if i == nil {
		return nil, api.ErrNil
	}
	root, err := i.set.Tree()
	if err != nil {
		return nil, importErrno(err)
	}
	s := fresh(i.set.Width())
	s.keep(root)
	return s, api.OK
}
