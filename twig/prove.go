package twig

import (
	"twig/api"
	"twig/bounds"
	"twig/keys"
	"twig/proof"
	"twig/tree"
	"twig/wire"
)

// Prove makes a program that proves what a key has (P9).
func (s *Store) Prove(version int, key string) (string, api.Errno) {
	root, e := s.versionFor(version, key)
	if e != api.OK {
		return "", e
	}
	return wire.Proof(proof.Make(root, keys.Bits(key))), api.OK
}

// Verify runs a program (P10). The value of a key that is not there is left out of what is asked, so nothing about it can be wrong.
func Verify(width int, root int, key string, there bool, value string, program string) api.Errno {
	var asked proof.Claim
	if there {
		asked = proof.Claim{Value: value, There: true}
	}
	switch {
	case !bounds.Width(width):
		return api.ErrWidth
	case !bounds.Key(len(key)):
		return api.ErrKey
	case !bounds.Length(len(asked.Value)):
		return api.ErrValue
	}
	if _, claim, err := run(width, root, keys.Bits(key), program); err != nil || claim != asked {
		return api.ErrProof
	}
	return api.OK
}

// Collide finds two texts with one digest, where a program proves what is not so (P11).
func (s *Store) Collide(version int, key string, program string) (string, string, api.Errno) {
	root, e := s.versionFor(version, key)
	if e != api.OK {
		return "", "", e
	}
	bits := keys.Bits(key)
	p, claim, err := run(s.width, root.Digest(), bits, program)
	value, there := root.Get(bits)
	if err != nil || claim == (proof.Claim{Value: value, There: there}) {
		return "", "", api.ErrProof
	}
	told, kept := proof.Part(s.width, bits, p, root)
	return told, kept, api.OK
}

// run is the program's proof, and what it proves about the key of these bits, if anything.
func run(width, root int, bits, program string) (api.Proof, proof.Claim, error) {
	p, err := wire.DecodeProof(program)
	if err != nil {
		return api.Proof{}, proof.Claim{}, err
	}
	claim, err := proof.Check(width, root, bits, p)
	return p, claim, err
}

// versionFor is a version's tree, for what is asked there about a key.
func (s *Store) versionFor(version int, key string) (*tree.Node, api.Errno) {
	root, e := s.version(version)
	if e != api.OK {
		return nil, e
	}
	if !bounds.Key(len(key)) {
		return nil, api.ErrKey
	}
	return root, api.OK
}
