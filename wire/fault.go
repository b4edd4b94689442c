package wire

import "errors"

// The ways in which bytes can be wrong: one error for each, so that who asks can tell them apart.
var (
	ErrShort   = errors.New("the bytes end too early")
	ErrOver    = errors.New("bytes are left over")
	ErrLong    = errors.New("a number that is not the shortest")
	ErrBig     = errors.New("a number of too many bytes")
	ErrPadding = errors.New("bits left over are not 0")
	ErrKind    = errors.New("no kind of node")
	ErrBits    = errors.New("a path of too many bits")
	ErrValue   = errors.New("a value of too many bytes")
	ErrSteps   = errors.New("too many steps")
	ErrSide    = errors.New("no side of a branch")
	ErrWidth   = errors.New("no width of digests")
	ErrSize    = errors.New("no size of chunks")
	ErrTotal   = errors.New("no number of bytes of all chunks")
	ErrDigest  = errors.New("a digest of too many bits")
)

// ErrNoBytes is of what is to be written, so it is none of the ways in which bytes are wrong.
var ErrNoBytes = errors.New("it has no bytes")

// Fault is an error with the place where it was met.
type Fault struct {
	Place string
	Err   error
}

func (f Fault) Error() string { return f.Place + ": " + f.Err.Error() }

func (f Fault) Unwrap() error { return f.Err }

func at(place string, err error) error { return Fault{place, err} }
