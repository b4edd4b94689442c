package twig

import (
	"errors"
	"testing"

	"twig/api"
	"twig/wire"
)

// TestErrno: however deep an error is wrapped, the call's answer goes by what it is.
func TestErrno(t *testing.T) {
	for _, way := range []error{
		wire.ErrShort, wire.ErrOver, wire.ErrLong, wire.ErrBig, wire.ErrPadding, wire.ErrKind, wire.ErrBits,
		wire.ErrValue, wire.ErrSteps, wire.ErrSide, wire.ErrWidth, wire.ErrSize, wire.ErrTotal, wire.ErrDigest,
	} {
		deep := wire.Fault{Place: "proof", Err: wire.Fault{Place: "bottom", Err: way}}
		if errno(way) != api.ErrBytes || errno(deep) != api.ErrBytes {
			t.Errorf("P4: %v: %d, %d", way, errno(way), errno(deep))
		}
		if errno(errors.New(way.Error())) == api.ErrBytes {
			t.Errorf("P4: %v is known by its text", way)
		}
	}
	if errno(nil) != api.OK || errno(wire.Fault{Place: "node", Err: wire.ErrNoBytes}) != api.ErrForm {
		t.Error("P4: OK or ErrForm")
	}
}
