package wire

import (
	"strings"

	"twig/bounds"
)

// reader has the bytes that are not read yet.
type reader struct {
	rest string
}

func (r *reader) end() error {
	if r.rest != "" {
		return at("end", ErrOver)
	}
	return nil
}

func (r *reader) take(count int) (string, error) {
	if count > len(r.rest) {
		return "", ErrShort
	}
	taken := r.rest[:count]
	r.rest = r.rest[count:]
	return taken, nil
}

func (r *reader) single() (int, error) {
	b, err := r.take(1)
	if err != nil {
		return 0, err
	}
	return int(b[0]), nil
}

func (r *reader) number() (int, error) {
	n := 0
	for shift := 0; shift < numberBits; shift += 7 {
		b, err := r.single()
		if err != nil {
			return 0, err
		}
		n |= (b & 0x7f) << shift
		if b == 0 && shift > 0 {
			return 0, ErrLong
		}
		if b < 0x80 {
			return n, nil
		}
	}
	return 0, ErrBig
}

func (r *reader) four() (int, error) {
	b, err := r.take(4)
	if err != nil {
		return 0, err
	}
	return int(b[0])<<24 | int(b[1])<<16 | int(b[2])<<8 | int(b[3]), nil
}

func (r *reader) path() (string, error) {
	count, err := r.number()
	if err != nil {
		return "", at("number of bits", err)
	}
	if !bounds.Bits(count) {
		return "", at("number of bits", ErrBits)
	}
	packed, err := r.take((count + 7) / 8)
	if err != nil {
		return "", at("bits", err)
	}
	signs := make([]byte, 8*len(packed))
	for i := range signs {
		signs[i] = '0' + packed[i/8]>>(7-i%8)&1
	}
	if strings.Contains(string(signs[count:]), "1") {
		return "", at("bits", ErrPadding)
	}
	return string(signs[:count]), nil
}

func (r *reader) value() (string, error) {
	count, err := r.number()
	if err != nil {
		return "", at("number of bytes", err)
	}
	if !bounds.Length(count) {
		return "", at("number of bytes", ErrValue)
	}
	taken, err := r.take(count)
	if err != nil {
		return "", at("bytes", err)
	}
	// A piece of the argument would keep all of its memory.
	return strings.Clone(taken), nil
}
