package wire

import (
	"strconv"

	"twig/api"
	"twig/bounds"
)

// EncodeProof writes a proof.
func EncodeProof(p api.Proof) (string, error) {
	if err := checkProof(p); err != nil {
		return "", at("proof", err)
	}
	return Proof(p), nil
}

// Proof leaves it to the caller that the proof has bytes, as each that is made of a tree has.
func Proof(p api.Proof) string {
	out := addNumber(addText(nil, Node(p.Bottom)), len(p.Ups))
	for _, up := range p.Ups {
		out = append(out, byte(up.Side))
		out = addFour(addPath(out, up.Path), up.Other)
	}
	return string(out)
}

func checkProof(p api.Proof) error {
	if err := checkNode(p.Bottom); err != nil {
		return at("bottom", at("node", err))
	}
	if !bounds.Steps(len(p.Ups)) {
		return at("number of steps", ErrNoBytes)
	}
	for i, up := range p.Ups {
		if err := checkUp(up); err != nil {
			return at("step "+strconv.Itoa(i), err)
		}
	}
	return nil
}

func checkUp(up api.Up) error {
	switch {
	case !bounds.Side(up.Side):
		return at("side", ErrNoBytes)
	case !bounds.Path(up.Path):
		return at("path", ErrNoBytes)
	case !bounds.Four(up.Other):
		return at("other", ErrNoBytes)
	}
	return nil
}

// DecodeProof reads a proof, of all the bytes.
func DecodeProof(b string) (api.Proof, error) {
	r := reader{b}
	p, err := r.proof()
	if err == nil {
		err = r.end()
	}
	if err != nil {
		return api.Proof{}, at("proof", err)
	}
	return p, nil
}

func (r *reader) proof() (api.Proof, error) {
	bottom, err := r.sized()
	if err != nil {
		return api.Proof{}, at("bottom", err)
	}
	count, err := r.number()
	if err != nil {
		return api.Proof{}, at("number of steps", err)
	}
	if !bounds.Steps(count) {
		return api.Proof{}, at("number of steps", ErrSteps)
	}
	ups := make([]api.Up, count)
	for i := range ups {
		if ups[i], err = r.up(); err != nil {
			return api.Proof{}, at("step "+strconv.Itoa(i), err)
		}
	}
	return api.Proof{Bottom: bottom, Ups: ups}, nil
}

func (r *reader) up() (api.Up, error) {
	side, err := r.single()
	if err != nil {
		return api.Up{}, at("side", err)
	}
	if !bounds.Side(side) {
		return api.Up{}, at("side", ErrSide)
	}
	path, err := r.path()
	if err != nil {
		return api.Up{}, at("path", err)
	}
	other, err := r.four()
	if err != nil {
		return api.Up{}, at("other", err)
	}
	return api.Up{Side: side, Path: path, Other: other}, nil
}
