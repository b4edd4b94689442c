// Package twig: keys and values in versions, with digests, proofs and chunks: see DOC.md.
package twig

import (
	"twig/api"
	"twig/bounds"
	"twig/digest"
	"twig/wire"
)

// Digest is the digest of some bytes (P3).
func Digest(width int, b string) (int, api.Errno) {
	if !bounds.Width(width) {
		return 0, api.ErrWidth
	}
	return digest.Of(width, b), api.OK
}

// EncodeNode writes a node (P4).
func EncodeNode(n api.Node) (string, api.Errno) {
	b, err := wire.EncodeNode(n)
	return b, errno(err)
}

// DecodeNode reads a node (P4).
func DecodeNode(b string) (api.Node, api.Errno) {
	n, err := wire.DecodeNode(b)
	return n, errno(err)
}

// EncodeProof writes a proof (P4).
func EncodeProof(p api.Proof) (string, api.Errno) {
	b, err := wire.EncodeProof(p)
	return b, errno(err)
}

// DecodeProof reads a proof (P4).
func DecodeProof(b string) (api.Proof, api.Errno) {
	p, err := wire.DecodeProof(b)
	return p, errno(err)
}

// EncodeManifest writes a manifest (P4).
func EncodeManifest(m api.Manifest) (string, api.Errno) {
	b, err := wire.EncodeManifest(m)
	return b, errno(err)
}

// DecodeManifest reads a manifest (P4).
func DecodeManifest(b string) (api.Manifest, api.Errno) {
	m, err := wire.DecodeManifest(b)
	return m, errno(err)
}
