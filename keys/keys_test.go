package keys

import (
	"cmp"
	"fmt"
	"strings"
	"testing"
)

// some are keys of all lengths, with the least and the greatest bytes, and such as begin with others.
func some() []string {
	list := []string{"A\x00", "A\xff", "AA", "AB", "AAA", "AAAA", "AAAB", "\x00\x00", "\x00\x00\x00\x00", "\xff\xff", "\xff\xff\xff\xff", "\x80\x7f\x01\xfe"}
	for b := range 256 {
		list = append(list, string([]byte{byte(b)}))
	}
	return list
}

func TestBits(t *testing.T) {
	for key, want := range map[string]string{
		"A":                "1010000010",
		"B":                "1010000100",
		"\x00":             "1000000000",
		"\xff":             "1111111110",
		"AB":               "1010000011010000100",
		"\x01\x80":         "1000000011100000000",
		"\xff\xff\xff\xff": strings.Repeat("1", 36) + "0",
	} {
		if got := Bits(key); got != want {
			t.Errorf("Bits(%q) = %s, want %s", key, got, want)
		}
	}
}

func TestKey(t *testing.T) {
	for _, key := range some() {
		want := ""
		for _, b := range []byte(key) {
			want += fmt.Sprintf("1%08b", b)
		}
		bits := Bits(key)
		if bits != want+"0" {
			t.Errorf("Bits(%q) = %s, want %s0", key, bits, want)
		}
		if got := Key(bits); got != key {
			t.Errorf("Key(%s) = %q, want %q", bits, got, key)
		}
	}
}

// TestOrder: bits are ordered as keys are, and no key's bits begin with another one's.
func TestOrder(t *testing.T) {
	for _, a := range some() {
		for _, b := range some() {
			x, y := Bits(a), Bits(b)
			if cmp.Compare(x, y) != cmp.Compare(a, b) {
				t.Errorf("%q and %q are ordered otherwise than %s and %s", a, b, x, y)
			}
			if a != b && strings.HasPrefix(x, y) {
				t.Errorf("the bits of %q begin with those of %q", a, b)
			}
		}
	}
}
