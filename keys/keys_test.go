package keys

import (
	"cmp"
	"fmt"
	"strings"
	"testing"
)

// some are keys of all lengths, with the least and the greatest bytes, and such as begin with others.
func some() []string {
	list := []string{"A\x00", "A\xff", "AA", "AB", "AAA", "AAAA", "AAAB", "\x00\x00", "\x00\x00\x00\x00", "\xff\xff", "\xff\xff\xff\xff", "\x80\x7f\x01\xfe"}
	for b := range 256 {
		list = append(list, string([]byte{byte(b)}))
	}
	return list
}

func TestBits(t *testing.T) {
	for key, want := range map[string]string{
		"A":                "1010000010",
		"B":                "1010000100",
		"\x00":             "1000000000",
		"\xff":             "1111111110",
		"AB":               "1010000011010000100",
		"\x01\x80":         "1000000011100000000",
		"\xff\xff\xff\xff": strings.Repeat("1", 36) + "0",
	} {
		if got := Bits(key); got != want {
			t.Errorf("Bits(%q) = %s, want %s", key, got, want)
		}
	}
}

func TestKey(t *testing.T) {
	for _, key := range some() {
		want := ""
		for _, b := range []byte(key) {
			want += fmt.Sprintf("1%08b", b)
		}
		bits := Bits(key)
		if bits != want+"0" {
			t.Errorf("Bits(%q) = %s, want %s0", key, bits, want)
		}
		if got := Key(bits); got != key {
			t.Errorf("Key(%s) = %q, want %q", bits, got, key)
		}
	}
}

// TestOrder: bits are ordered as keys are, and no key's bits begin with another one's.
func TestOrder(t *testing.T) {
	for _, a := range some() {
		for _, b := range some() {
			x, y := Bits(a), Bits(b)
			if cmp.Compare(x, y) != cmp.Compare(a, b) {
				t.Errorf("%q and %q are ordered otherwise than %s and %s", a, b, x, y)
			}
			if a != b && strings.HasPrefix(x, y) {
				t.Errorf("the bits of %q begin with those of %q", a, b)
			}
		}
	}
}

// TestAre: the bits of keys, and what is near them: a bit more, a bit less, another bit.
func TestAre(t *testing.T) {
	known := map[string]bool{}
	for _, key := range some() {
		known[Bits(key)] = true
	}
	for bits := range known {
		if !Are(bits) {
			t.Errorf("%s are no key's", bits)
		}
	}
	long := strings.Repeat("1", 36)
	for _, bits := range []string{
		"", "0", "1", "00", "10", "0000000000", "0010000010", "1010000011", "101000001", "10100000", "10100000100", "01010000010",
		"101000001101000001", "1010000011010000010" + "0", "1010000010010000010", "1010000011010000011",
		long, long + "1", long + "00", long + long + "0", long + "1111111110", long + "11111111" + "0", "1" + long + "0",
	} {
		if Are(bits) {
			t.Errorf("%s are taken for a key's", bits)
		}
	}
}
