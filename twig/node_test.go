package twig

import (
	"strings"
	"testing"

	"twig/api"
)

type nodeCase struct {
	n api.Node
	b string
}

func nodeCases() []nodeCase {
	return []nodeCase{
		{emptyNode(), "02"},
		{api.Node{Path: "1010000010", Value: "x"}, "00 0a a0 80 01 78"},
		{api.Node{Path: "10", Value: "x"}, "00 02 80 01 78"},
		{api.Node{}, "00 00 00"},
		{api.Node{Value: "\x00"}, "00 00 01 00"},
		{api.Node{Path: "0"}, "00 01 00 00"},
		{api.Node{Path: "1111111"}, "00 07 fe 00"},
		{api.Node{Path: "11111111"}, "00 08 ff 00"},
		{api.Node{Path: "000000001"}, "00 09 00 80 00"},
		{api.Node{Path: ones(37), Value: strings.Repeat("v", 20)}, "00 25 ff ff ff ff f8 14" + strings.Repeat("76", 20)},
		{api.Node{Kind: api.Branch, Path: "101", Left: 5, Right: 6}, "01 03 a0 00 00 00 05 00 00 00 06"},
		{api.Node{Kind: api.Branch}, "01 00 00 00 00 00 00 00 00 00"},
		{api.Node{Kind: api.Branch, Left: 1<<32 - 1, Right: 0x01020304}, "01 00 ff ff ff ff 01 02 03 04"},
		{api.Node{Kind: api.Branch, Path: ones(37)}, "01 25 ff ff ff ff f8 00 00 00 00 00 00 00 00"},
	}
}

func TestNodeBytes(t *testing.T) {
	for _, c := range nodeCases() {
		if b, e := EncodeNode(c.n); b != hx(c.b) || e != api.OK {
			t.Errorf("P4: EncodeNode(%v) = %x, %d, want %s", c.n, b, e, c.b)
		}
		if n, e := DecodeNode(hx(c.b)); n != c.n || e != api.OK {
			t.Errorf("P4: DecodeNode(%s) = %v, %d, want %v", c.b, n, e, c.n)
		}
	}
}

func TestPathsOfAllLengths(t *testing.T) {
	for bits := range api.MaxBits + 1 {
		for _, path := range []string{ones(bits), strings.Repeat("0", bits), strings.Repeat("01", 19)[:bits], strings.Repeat("10", 19)[:bits]} {
			n := api.Node{Path: path, Value: "v"}
			b, e := EncodeNode(n)
			if want := 1 + 1 + (bits+7)/8 + 2; len(b) != want || e != api.OK {
				t.Errorf("P4: EncodeNode of a path of %d bits has %d bytes, %d, want %d", bits, len(b), e, want)
			}
			if got, e := DecodeNode(b); got != n || e != api.OK {
				t.Errorf("P4: DecodeNode(%x) = %v, %d, want %v", b, got, e, n)
			}
		}
	}
}

func TestValuesOfAllLengths(t *testing.T) {
	for length := range api.MaxValue + 1 {
		n := api.Node{Path: "1", Value: strings.Repeat("\xff", length)}
		b, e := EncodeNode(n)
		if want := "\x00\x01\x80" + string([]byte{byte(length)}) + n.Value; b != want || e != api.OK {
			t.Errorf("P4: EncodeNode of a value of %d bytes = %x, %d", length, b, e)
		}
		if got, e := DecodeNode(b); got != n || e != api.OK {
			t.Errorf("P4: DecodeNode(%x) = %v, %d", b, got, e)
		}
	}
}

func TestNodesWithoutBytes(t *testing.T) {
	nodes := []api.Node{
		{Kind: 3}, {Kind: 256}, {Kind: 257}, {Kind: 258},
		{Kind: api.Empty, Path: "1"}, {Kind: api.Empty, Value: "x"}, {Kind: api.Empty, Left: 1}, {Kind: api.Empty, Right: 1},
		{Left: 1}, {Right: 1}, {Left: -1},
		{Kind: api.Branch, Value: "x"},
		{Path: ones(38)}, {Path: ones(1000)}, {Path: "2"}, {Path: "/"}, {Path: " 1"}, {Path: "1\n"}, {Path: "\x00"}, {Path: "\x01"},
		{Kind: api.Branch, Path: ones(38)}, {Kind: api.Branch, Path: "01x"},
		{Value: strings.Repeat("v", 21)}, {Value: strings.Repeat("v", 1000)},
	}
	for _, n := range far {
		nodes = append(nodes, api.Node{Kind: n}, api.Node{Kind: api.Branch, Left: n}, api.Node{Kind: api.Branch, Right: n})
	}
	for _, n := range nodes {
		if b, e := EncodeNode(n); b != "" || e != api.ErrForm {
			t.Errorf("P4: EncodeNode(%v) = %x, %d", n, b, e)
		}
	}
}

func TestBytesOfNoNode(t *testing.T) {
	for _, b := range []string{
		"", "03", "ff", "80 00", "02 00", "02 02",
		"00 0a a0 81 01 78", "00 0a a0 a0 01 78", "00 01 c0 00", "00 01 81 00", "01 03 a1 00 00 00 05 00 00 00 06", "00 25 ff ff ff ff fc 00",
		"00 8a 00 a0 80 01 78", "00 80 00 00", "00 00 80 00", "00 00 81 00 78", "00 80 80 80 00 00",
		"00 80 80 80 80 00 00", "00 ff ff ff ff 7f", "00 ff ff ff 7f",
		"00 26 ff ff ff ff fc 00", "00 00 15" + strings.Repeat("76", 21), "00 00 94 01" + strings.Repeat("76", 148),
		"00 00", "00 00 01", "00 09 00", "01 00", "01 00 00 00 00 00 00 00 00", "01 00 00 00 00 00 00 00 00 00 00",
	} {
		if n, e := DecodeNode(hx(b)); n != (api.Node{}) || e != api.ErrBytes {
			t.Errorf("P4: DecodeNode(%s) = %v, %d", b, n, e)
		}
	}
}

// sameNode: bytes are refused, or they are what is made of their node.
func sameNode(t *testing.T, b string) bool {
	n, e := DecodeNode(b)
	if e != api.OK {
		if n != (api.Node{}) || e != api.ErrBytes {
			t.Errorf("P4: DecodeNode(%x) = %v, %d", b, n, e)
		}
		return false
	}
	if again, e := EncodeNode(n); again != b || e != api.OK {
		t.Errorf("P4: DecodeNode(%x) = %v, which is written %x, %d", b, n, again, e)
	}
	return true
}

func TestNodesHaveOneForm(t *testing.T) {
	for _, c := range nodeCases() {
		spoilt(hx(c.b), func(b string) { sameNode(t, b) })
	}
}

// TestShortNodes counts: of one byte there is Empty alone, of three the leaf without path and value alone; of four, with a last byte 0 or 1, the leaves with a path of 1 to 8 bits, and two without a path and with a value.
func TestShortNodes(t *testing.T) {
	one, three, four := 0, 0, 0
	count := func(n *int, b ...byte) {
		if sameNode(t, string(b)) {
			*n++
		}
	}
	for i := range 1 << 8 {
		count(&one, byte(i))
	}
	for i := range 1 << 16 {
		for kind := range 4 {
			count(&three, byte(kind), byte(i>>8), byte(i))
		}
		count(&four, 0, byte(i>>8), byte(i), 0)
		count(&four, 0, byte(i>>8), byte(i), 1)
	}
	if one != 1 || three != 1 || four != 2+4+8+16+32+64+128+256+2 {
		t.Errorf("P4: %d, %d, %d nodes of one, three, four bytes", one, three, four)
	}
}
