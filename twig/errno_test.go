package twig

import (
	"errors"
	"testing"

	"twig/api"
	"twig/chunks"
	"twig/tree"
	"twig/wire"
)

// TestErrno: however deep an error is wrapped, the call's answer goes by what it is.
func TestErrno(t *testing.T) {
	for _, way := range []error{
		wire.ErrShort, wire.ErrOver, wire.ErrLong, wire.ErrBig, wire.ErrPadding, wire.ErrKind, wire.ErrBits,
		wire.ErrValue, wire.ErrSteps, wire.ErrSide, wire.ErrWidth, wire.ErrSize, wire.ErrTotal, wire.ErrDigest,
	} {
		deep := wire.Fault{Place: "proof", Err: wire.Fault{Place: "bottom", Err: way}}
		if errno(way) != api.ErrBytes || errno(deep) != api.ErrBytes {
			t.Errorf("P4: %v: %d, %d", way, errno(way), errno(deep))
		}
		if errno(errors.New(way.Error())) == api.ErrBytes {
			t.Errorf("P4: %v is known by its text", way)
		}
	}
	if errno(nil) != api.OK || errno(wire.Fault{Place: "node", Err: wire.ErrNoBytes}) != api.ErrForm {
		t.Error("P4: OK or ErrForm")
	}
}

// TestImportErrno: what is wrong with the bytes of a stream, or with its nodes, is no tree; the rest has answers of its own.
func TestImportErrno(t *testing.T) {
	for _, c := range []struct {
		way  error
		want api.Errno
	}{
		{chunks.ErrIndex, api.ErrIndex}, {chunks.ErrLength, api.ErrChunk}, {chunks.ErrDigest, api.ErrChunk}, {chunks.ErrMissing, api.ErrMore}, {chunks.ErrRoot, api.ErrRoot},
		{wire.ErrShort, api.ErrTree}, {wire.ErrOver, api.ErrTree}, {wire.ErrLong, api.ErrTree}, {wire.ErrBig, api.ErrTree}, {wire.ErrPadding, api.ErrTree}, {wire.ErrKind, api.ErrTree}, {wire.ErrBits, api.ErrTree}, {wire.ErrValue, api.ErrTree},
		{tree.ErrMissing, api.ErrTree}, {tree.ErrOver, api.ErrTree}, {tree.ErrEmpty, api.ErrTree}, {tree.ErrPath, api.ErrTree}, {tree.ErrDigest, api.ErrTree},
	} {
		deep := wire.Fault{Place: "stream", Err: wire.Fault{Place: "number 3", Err: c.way}}
		if importErrno(c.way) != c.want || importErrno(deep) != c.want {
			t.Errorf("P14: %v: %d, %d, want %d", c.way, importErrno(c.way), importErrno(deep), c.want)
		}
	}
	if importErrno(nil) != api.OK {
		t.Error("P14: no error is one")
	}
}
