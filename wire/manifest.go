package wire

import (
	"strconv"

	"twig/api"
	"twig/bounds"
)

// Chunks is how many chunks of size bytes all the bytes make; the last one may be shorter.
func Chunks(total, size int) int { return (total + size - 1) / size }

// EncodeManifest writes a manifest.
func EncodeManifest(m api.Manifest) (string, error) {
	if err := checkManifest(m); err != nil {
		return "", at("manifest", err)
	}
	return Manifest(m), nil
}

// Manifest leaves it to the caller that the manifest has bytes, as each that is made of a tree and its chunks has.
func Manifest(m api.Manifest) string {
	out := addFour([]byte{byte(m.Width)}, m.Root)
	out = addNumber(addNumber(out, m.Size), m.Total)
	for _, d := range m.Digests {
		out = addFour(out, d)
	}
	return string(out)
}

// checkManifest asks for the size ahead of the number of digests: there is no dividing by 0.
func checkManifest(m api.Manifest) error {
	switch {
	case !bounds.Width(m.Width):
		return at("width", ErrNoBytes)
	case !bounds.Digest(m.Width, m.Root):
		return at("root", ErrNoBytes)
	case !bounds.Size(m.Size):
		return at("size", ErrNoBytes)
	case !bounds.Total(m.Total):
		return at("total", ErrNoBytes)
	case len(m.Digests) != Chunks(m.Total, m.Size):
		return at("number of digests", ErrNoBytes)
	}
	for i, d := range m.Digests {
		if !bounds.Digest(m.Width, d) {
			return at("digest "+strconv.Itoa(i), ErrNoBytes)
		}
	}
	return nil
}

// DecodeManifest reads a manifest, of all the bytes.
func DecodeManifest(b string) (api.Manifest, error) {
	r := reader{b}
	m, err := r.manifest()
	if err == nil {
		err = r.end()
	}
	if err != nil {
		return api.Manifest{}, at("manifest", err)
	}
	return m, nil
}

func (r *reader) manifest() (api.Manifest, error) {
	width, err := r.single()
	if err != nil {
		return api.Manifest{}, at("width", err)
	}
	if !bounds.Width(width) {
		return api.Manifest{}, at("width", ErrWidth)
	}
	root, err := r.digest(width)
	if err != nil {
		return api.Manifest{}, at("root", err)
	}
	size, total, err := r.sizes()
	if err != nil {
		return api.Manifest{}, err
	}
	digests, err := r.digests(width, Chunks(total, size))
	if err != nil {
		return api.Manifest{}, err
	}
	return api.Manifest{Width: width, Root: root, Size: size, Total: total, Digests: digests}, nil
}

func (r *reader) sizes() (int, int, error) {
	size, err := r.number()
	if err != nil {
		return 0, 0, at("size", err)
	}
	if !bounds.Size(size) {
		return 0, 0, at("size", ErrSize)
	}
	total, err := r.number()
	if err != nil {
		return 0, 0, at("total", err)
	}
	if !bounds.Total(total) {
		return 0, 0, at("total", ErrTotal)
	}
	return size, total, nil
}

func (r *reader) digests(width, count int) ([]int, error) {
	digests := make([]int, count)
	for i := range digests {
		d, err := r.digest(width)
		if err != nil {
			return nil, at("digest "+strconv.Itoa(i), err)
		}
		digests[i] = d
	}
	return digests, nil
}

func (r *reader) digest(width int) (int, error) {
	d, err := r.four()
	if err != nil {
		return 0, err
	}
	if !bounds.Digest(width, d) {
		return 0, ErrDigest
	}
	return d, nil
}
