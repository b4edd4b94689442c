package twig

import (
	"errors"

	"twig/api"
	"twig/chunks"
	"twig/wire"
)

// errno leaves ErrForm to what is not about bytes: it is about what was to be written.
func errno(err error) api.Errno {
	switch {
	case err == nil:
		return api.OK
	case wrongBytes(err):
		return api.ErrBytes
	}
	return api.ErrForm
}

func wrongBytes(err error) bool {
	switch {
	case errors.Is(err, wire.ErrShort),
		errors.Is(err, wire.ErrOver),
		errors.Is(err, wire.ErrLong),
		errors.Is(err, wire.ErrBig),
		errors.Is(err, wire.ErrPadding),
		errors.Is(err, wire.ErrKind),
		errors.Is(err, wire.ErrBits),
		errors.Is(err, wire.ErrValue),
		errors.Is(err, wire.ErrSteps),
		errors.Is(err, wire.ErrSide),
		errors.Is(err, wire.ErrWidth),
		errors.Is(err, wire.ErrSize),
		errors.Is(err, wire.ErrTotal),
		errors.Is(err, wire.ErrDigest):
		return true
	}
	return false
}

// importErrno leaves ErrTree to all else that chunks can be together: they are no tree, whether by their bytes or by their nodes.
func importErrno(err error) api.Errno {
	switch {
	case err == nil:
		return api.OK
	case errors.Is(err, chunks.ErrIndex):
		return api.ErrIndex
	case errors.Is(err, chunks.ErrLength), errors.Is(err, chunks.ErrDigest):
		return api.ErrChunk
	case errors.Is(err, chunks.ErrMissing):
		return api.ErrMore
	case errors.Is(err, chunks.ErrRoot):
		return api.ErrRoot
	}
	return api.ErrTree
}
