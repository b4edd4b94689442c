package wire

import (
	"encoding/hex"
	"errors"
	"slices"
	"strings"
	"testing"

	"twig/api"
)

func hx(s string) string {
	b, err := hex.DecodeString(strings.ReplaceAll(s, " ", ""))
	if err != nil {
		panic(err)
	}
	return string(b)
}

func node(b string) error {
	_, err := DecodeNode(b)
	return err
}

func proof(b string) error {
	_, err := DecodeProof(b)
	return err
}

func manifest(b string) error {
	_, err := DecodeManifest(b)
	return err
}

func stream(b string) error {
	_, err := DecodeStream(b)
	return err
}

type wayCase struct {
	b     string
	way   error
	place string
}

func nodeWays() []wayCase {
	return []wayCase{
		{"", ErrShort, "node: kind"},
		{"00", ErrShort, "node: path: number of bits"},
		{"00 8a", ErrShort, "node: path: number of bits"},
		{"00 0a a0", ErrShort, "node: path: bits"},
		{"00 00", ErrShort, "node: value: number of bytes"},
		{"00 00 02 78", ErrShort, "node: value: bytes"},
		{"01 00 00 00 00", ErrShort, "node: left"},
		{"01 00 00 00 00 05 00 00 00", ErrShort, "node: right"},
		{"02 00", ErrOver, "node: end"},
		{"00 8a 00 a0 80 01 78", ErrLong, "node: path: number of bits"},
		{"00 00 80 00", ErrLong, "node: value: number of bytes"},
		{"00 80 80 80 00", ErrLong, "node: path: number of bits"},
		{"00 80 80 80 80 00", ErrBig, "node: path: number of bits"},
		{"00 ff ff ff ff 7f", ErrBig, "node: path: number of bits"},
		{"00 0a a0 81 01 78", ErrPadding, "node: path: bits"},
		{"01 03 b0 00 00 00 05 00 00 00 06", ErrPadding, "node: path: bits"},
		{"03", ErrKind, "node: kind"},
		{"ff", ErrKind, "node: kind"},
		{"00 26 ff ff ff ff fc 00", ErrBits, "node: path: number of bits"},
		{"00 ff ff ff 7f", ErrBits, "node: path: number of bits"},
		{"00 00 15" + strings.Repeat("76", 21), ErrValue, "node: value: number of bytes"},
	}
}

func proofWays() []wayCase {
	return []wayCase{
		{"", ErrShort, "proof: bottom: number of bytes"},
		{"02 02", ErrShort, "proof: bottom: bytes"},
		{"00 00", ErrShort, "proof: bottom: node: kind"},
		{"02 02 00 00", ErrOver, "proof: bottom: node: end"},
		{"01 03 00", ErrKind, "proof: bottom: node: kind"},
		{"81 00 02 00", ErrLong, "proof: bottom: number of bytes"},
		{"01 02", ErrShort, "proof: number of steps"},
		{"01 02 80 00", ErrLong, "proof: number of steps"},
		{"01 02 26" + strings.Repeat("00 00 00 00 00 00", 38), ErrSteps, "proof: number of steps"},
		{"01 02 01", ErrShort, "proof: step 0: side"},
		{"01 02 01 02 00 00 00 00 00", ErrSide, "proof: step 0: side"},
		{"01 02 02 00 00 00 00 00 00 01 01 c0 00 00 00 00", ErrPadding, "proof: step 1: path: bits"},
		{"01 02 01 00 00 00 00 00", ErrShort, "proof: step 0: other"},
		{"01 02 00 00", ErrOver, "proof: end"},
	}
}

func manifestWays() []wayCase {
	return []wayCase{
		{"", ErrShort, "manifest: width"},
		{"00 00 00 00 00 08 01 00 00 00 00", ErrWidth, "manifest: width"},
		{"21 00 00 00 00 08 01 00 00 00 00", ErrWidth, "manifest: width"},
		{"08 00 00 00", ErrShort, "manifest: root"},
		{"08 00 00 01 00 08 01 00 00 00 00", ErrDigest, "manifest: root"},
		{"08 00 00 00 00", ErrShort, "manifest: size"},
		{"08 00 00 00 00 00 01", ErrSize, "manifest: size"},
		{"08 00 00 00 00 07 01 00 00 00 00", ErrSize, "manifest: size"},
		{"08 00 00 00 00 e9 07 01 00 00 00 00", ErrSize, "manifest: size"},
		{"08 00 00 00 00 88 00 01 00 00 00 00", ErrLong, "manifest: size"},
		{"08 00 00 00 00 08", ErrShort, "manifest: total"},
		{"08 00 00 00 00 08 00", ErrTotal, "manifest: total"},
		{"08 00 00 00 00 08 a1 8d 06", ErrTotal, "manifest: total"},
		{"08 00 00 00 00 08 ff ff ff ff 00", ErrBig, "manifest: total"},
		{"08 00 00 00 00 08 09 00 00 00 00 00 00 01 00", ErrDigest, "manifest: digest 1"},
		{"08 00 00 00 00 08 09 00 00 00 00 00 00 00", ErrShort, "manifest: digest 1"},
		{"08 00 00 00 00 08 08 00 00 00 00 00 00 00 00", ErrOver, "manifest: end"},
	}
}

func streamWays() []wayCase {
	return []wayCase{
		{"01 02 00", ErrShort, "stream: number 1: node: kind"},
		{"02 02", ErrShort, "stream: number 0: bytes"},
		{"01 02 01 02 01", ErrShort, "stream: number 2: bytes"},
		{"80", ErrShort, "stream: number 0: number of bytes"},
		{"01 02 81 00 02", ErrLong, "stream: number 1: number of bytes"},
		{"80 80 80 80 01", ErrBig, "stream: number 0: number of bytes"},
		{"ff ff ff 7f 02", ErrShort, "stream: number 0: bytes"},
		{"02 02 00", ErrOver, "stream: number 0: node: end"},
		{"01 02 01 03", ErrKind, "stream: number 1: node: kind"},
		{"06 00 0a a0 81 01 78", ErrPadding, "stream: number 0: node: path: bits"},
		{"18 00 00 15" + strings.Repeat("76", 21), ErrValue, "stream: number 0: node: value: number of bytes"},
	}
}

// TestWays: for each way in which bytes can be wrong its own error, and where it was met.
func TestWays(t *testing.T) {
	wayTest(t, node, nodeWays())
	wayTest(t, proof, proofWays())
	wayTest(t, manifest, manifestWays())
	wayTest(t, stream, streamWays())
}

func wayTest(t *testing.T, decode func(string) error, cases []wayCase) {
	for _, c := range cases {
		err := decode(hx(c.b))
		if !errors.Is(err, c.way) {
			t.Errorf("%s: %v, want %v", c.b, err, c.way)
			continue
		}
		if want := c.place + ": " + c.way.Error(); err.Error() != want {
			t.Errorf("%s: %q, want %q", c.b, err.Error(), want)
		}
		if errors.Is(err, ErrNoBytes) {
			t.Errorf("%s: taken for what has no bytes", c.b)
		}
	}
}

// TestNoBytes: what can't be written is told with the place, too.
func TestNoBytes(t *testing.T) {
	encode := func(_ string, err error) error { return err }
	m := api.Manifest{Width: 8, Root: 1, Size: 8, Total: 16, Digests: []int{1, 256}}
	wrong := api.Node{Kind: 3}
	empty := api.Node{Kind: api.Empty}
	for place, err := range map[string]error{
		"node: kind":                   encode(EncodeNode(wrong)),
		"node: fields of another kind": encode(EncodeNode(api.Node{Right: 1})),
		"node: path":                   encode(EncodeNode(api.Node{Path: "2"})),
		"node: value":                  encode(EncodeNode(api.Node{Value: strings.Repeat("v", 21)})),
		"node: left":                   encode(EncodeNode(api.Node{Kind: api.Branch, Left: -1})),
		"node: right":                  encode(EncodeNode(api.Node{Kind: api.Branch, Right: 1 << 32})),
		"proof: bottom: node: kind":    encode(EncodeProof(api.Proof{Bottom: wrong})),
		"proof: number of steps":       encode(EncodeProof(api.Proof{Bottom: empty, Ups: make([]api.Up, 38)})),
		"proof: step 1: side":          encode(EncodeProof(api.Proof{Bottom: empty, Ups: []api.Up{{}, {Side: 2}}})),
		"proof: step 0: path":          encode(EncodeProof(api.Proof{Bottom: empty, Ups: []api.Up{{Path: "x"}}})),
		"proof: step 0: other":         encode(EncodeProof(api.Proof{Bottom: empty, Ups: []api.Up{{Other: -1}}})),
		"manifest: width":              encode(EncodeManifest(api.Manifest{})),
		"manifest: root":               encode(EncodeManifest(api.Manifest{Width: 1, Root: 2})),
		"manifest: size":               encode(EncodeManifest(api.Manifest{Width: 1})),
		"manifest: total":              encode(EncodeManifest(api.Manifest{Width: 1, Size: 8})),
		"manifest: number of digests":  encode(EncodeManifest(api.Manifest{Width: 1, Size: 8, Total: 8})),
		"manifest: digest 1":           encode(EncodeManifest(m)),
	} {
		if want := place + ": " + ErrNoBytes.Error(); err == nil || err.Error() != want || !errors.Is(err, ErrNoBytes) {
			t.Errorf("%v, want %q", err, want)
		}
	}
}

func TestNumbers(t *testing.T) {
	for n, b := range map[int]string{
		0: "00", 1: "01", 127: "7f",
		128: "80 01", 300: "ac 02", 16383: "ff 7f",
		16384: "80 80 01", 100000: "a0 8d 06", 1<<21 - 1: "ff ff 7f",
		1 << 21: "80 80 80 01", 1<<28 - 1: "ff ff ff 7f",
	} {
		if got := string(addNumber(nil, n)); got != hx(b) {
			t.Errorf("%d is written %x, want %s", n, got, b)
		}
		r := reader{hx(b) + "\x05"}
		if got, err := r.number(); got != n || err != nil || r.rest != "\x05" {
			t.Errorf("%s is read as %d, %v, with %x left", b, got, err, r.rest)
		}
	}
}

func TestChunks(t *testing.T) {
	for _, c := range [][3]int{{1, 8, 1}, {8, 8, 1}, {9, 8, 2}, {16, 8, 2}, {300, 128, 3}, {100000, 8, 12500}, {100000, 999, 101}, {100000, 1000, 100}} {
		if got := Chunks(c[0], c[1]); got != c[2] {
			t.Errorf("Chunks(%d, %d) = %d, want %d", c[0], c[1], got, c[2])
		}
	}
}

// TestStream: nodes one behind the other, whatever they are together.
func TestStream(t *testing.T) {
	leaf, branch := api.Node{Path: "10", Value: "x"}, api.Node{Kind: api.Branch, Path: "101", Left: 5, Right: 6}
	for _, c := range []struct {
		nodes []api.Node
		b     string
	}{
		{nil, ""},
		{[]api.Node{{Kind: api.Empty}}, "01 02"},
		{[]api.Node{leaf}, "05 00 02 80 01 78"},
		{[]api.Node{branch, leaf, {Kind: api.Empty}, leaf}, "0b 01 03 a0 00 00 00 05 00 00 00 06 05 00 02 80 01 78 01 02 05 00 02 80 01 78"},
	} {
		if b, err := Stream(slices.Values(c.nodes)); b != hx(c.b) || err != nil {
			t.Errorf("Stream(%v) = %x, %v, want %s", c.nodes, b, err, c.b)
		}
		if nodes, err := DecodeStream(hx(c.b)); !slices.Equal(nodes, c.nodes) || err != nil {
			t.Errorf("DecodeStream(%s) = %v, %v, want %v", c.b, nodes, err, c.nodes)
		}
	}
}

// TestLongStream: just as many bytes as all chunks may have, and more; then no node is asked for any more.
func TestLongStream(t *testing.T) {
	empties := func(count int, asked *int) func(func(api.Node) bool) {
		return func(yield func(api.Node) bool) {
			for *asked = 0; *asked < count; *asked++ {
				if !yield(api.Node{Kind: api.Empty}) {
					return
				}
			}
		}
	}
	const most = api.MaxTotal / 2
	var asked int
	if b, err := Stream(empties(most, &asked)); b != strings.Repeat("\x01\x02", most) || err != nil {
		t.Errorf("of %d nodes: %d bytes, %v", most, len(b), err)
	}
	for _, more := range []int{1, 2, most} {
		b, err := Stream(empties(most+more, &asked))
		if b != "" || !errors.Is(err, ErrNoBytes) || err.Error() != "stream: it has no bytes" || asked != most {
			t.Errorf("of %d nodes: %d bytes, %v, and %d nodes are asked for", most+more, len(b), err, asked)
		}
	}
}
