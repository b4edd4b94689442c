// Package keys writes keys as bits, and reads them back.
package keys

import "twig/bounds"

// each is how many bits a byte of a key makes: a 1, and its own eight.
const each = 9

// Bits is the key's bits, as a path.
func Bits(key string) string {
	bits := make([]byte, 0, each*len(key)+1)
	for i := range len(key) {
		bits = append(bits, '1')
		for place := 7; place >= 0; place-- {
			bits = append(bits, '0'+key[i]>>place&1)
		}
	}
	return string(append(bits, '0'))
}

// Key leaves it to the caller that the bits are a key's.
func Key(bits string) string {
	var key []byte
	for ; len(bits) > each; bits = bits[each:] {
		key = append(key, single(bits[1:each]))
	}
	return string(key)
}

func single(bits string) byte {
	var b byte
	for i := range len(bits) {
		b = b<<1 | (bits[i] - '0')
	}
	return b
}

// Are tells whether the bits are a key's: what is read from them has these bits alone.
func Are(bits string) bool {
	key := Key(bits)
	return bounds.Key(len(key)) && Bits(key) == bits
}
