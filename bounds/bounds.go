// Package bounds tells what keeps within the document's bounds.
package bounds

import (
	"strings"

	"twig/api"
)

// within holds for no number where high is below low.
func within(n, low, high int) bool { return max(n, low) == min(n, high) }

// Width tells whether digests may have so many bits.
func Width(n int) bool { return within(n, 1, api.MaxWidth) }

// Digest asks for the width first: to move by less than no bits would panic.
func Digest(width, n int) bool { return Width(width) && within(n, 0, 1<<width-1) }

// Four tells whether four bytes hold the number.
func Four(n int) bool { return within(n, 0, 1<<32-1) }

// Bits tells whether a path may have so many bits.
func Bits(n int) bool { return within(n, 0, api.MaxBits) }

// Path tells whether the text is a path.
func Path(s string) bool { return Bits(len(s)) && strings.Trim(s, "01") == "" }

// Key tells whether a key may have so many bytes.
func Key(n int) bool { return within(n, 1, api.MaxKey) }

// Length tells whether a value may have so many bytes.
func Length(n int) bool { return within(n, 0, api.MaxValue) }

// Steps tells whether a proof may have so many steps: each takes a bit of a key.
func Steps(n int) bool { return within(n, 0, api.MaxBits) }

// Side tells whether the number is a side of a branch.
func Side(n int) bool { return within(n, 0, 1) }

// Size tells whether chunks may have so many bytes.
func Size(n int) bool { return within(n, api.MinChunk, api.MaxChunk) }

// Total tells whether all chunks together may have so many bytes.
func Total(n int) bool { return within(n, 1, api.MaxTotal) }

// Version tells whether there was a version of that number, where last is the newest one's, or 0.
func Version(n, last int) bool { return within(n, 1, last) }

// Index tells whether there is one of that number, from 0 on, of so many.
func Index(n, count int) bool { return within(n, 0, count-1) }
