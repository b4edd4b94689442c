package chunks

import (
	"errors"
	"math"
	"runtime"
	"slices"
	"strings"
	"testing"

	"twig/api"
	"twig/digest"
	"twig/keys"
	"twig/tree"
	"twig/wire"
)

// TestCut: the last chunk is whole, or shorter, or the only one.
func TestCut(t *testing.T) {
	for _, c := range []struct {
		b    string
		size int
		want []string
	}{
		{"", 8, nil},
		{"a", 8, []string{"a"}},
		{"abcdefgh", 8, []string{"abcdefgh"}},
		{"abcdefghi", 8, []string{"abcdefgh", "i"}},
		{"abcdefghijklmno", 8, []string{"abcdefgh", "ijklmno"}},
		{"abcdefghijklmnop", 8, []string{"abcdefgh", "ijklmnop"}},
		{"abcdefghijklmnop", 16, []string{"abcdefghijklmnop"}},
		{"abcdefghijklmnop", 1000, []string{"abcdefghijklmnop"}},
	} {
		got := Cut(c.b, c.size)
		if !slices.Equal(got, c.want) || len(got) != wire.Chunks(len(c.b), c.size) {
			t.Errorf("Cut(%q, %d) = %q, want %q", c.b, c.size, got, c.want)
		}
		for i, chunk := range got {
			if n := length(len(c.b), c.size, i); n != len(chunk) {
				t.Errorf("length(%d, %d, %d) = %d, want %d", len(c.b), c.size, i, n, len(chunk))
			}
		}
	}
}

// TestDigests: one is that of its own chunk, on however many processors.
func TestDigests(t *testing.T) {
	var list []string
	for i := range 3000 {
		list = append(list, strings.Repeat(string([]byte{byte(i), byte(i >> 8)}), i%500))
	}
	for _, processors := range []int{1, 2, 8} {
		old := runtime.GOMAXPROCS(processors)
		for _, width := range []int{1, 16, 32} {
			got := Digests(width, list)
			for i, chunk := range list {
				if got[i] != digest.Of(width, chunk) {
					t.Fatalf("on %d processors chunk %d of width %d has %d", processors, i, width, got[i])
				}
			}
		}
		runtime.GOMAXPROCS(old)
	}
	if got := Digests(32, nil); len(got) != 0 {
		t.Errorf("of no chunks: %v", got)
	}
}

// begun is a set for the chunks of a stream, whatever that is.
func begun(width, root, size int, stream string) (Set, []string) {
	list := Cut(stream, size)
	return Begin(api.Manifest{Width: width, Root: root, Size: size, Total: len(stream), Digests: Digests(width, list)}), list
}

func wrong(t *testing.T, err, want error, place string) {
	t.Helper()
	if !errors.Is(err, want) || err.Error() != place+want.Error() {
		t.Errorf("%v, want %s%v", err, place, want)
	}
}

// TestPut: for each way in which a chunk is wrong its own error, and what is there already stays.
func TestPut(t *testing.T) {
	s, list := begun(32, 0, 8, "abcdefghijklmnopqrs")
	for range 2 {
		for _, i := range []int{math.MinInt, -1, 3, 4, 1 << 32, 1 << 62, math.MaxInt} {
			wrong(t, s.check(i, "abcdefgh"), ErrIndex, "")
			if !errors.Is(s.Put(i, ""), ErrIndex) {
				t.Errorf("Put(%d) is taken", i)
			}
		}
		for i, place := range []string{"chunk 0: ", "chunk 1: ", "chunk 2: "} {
			for _, chunk := range []string{"", list[i][1:], list[i] + "\x00", list[i] + list[i]} {
				wrong(t, s.Put(i, chunk), ErrLength, place)
			}
			wrong(t, s.Put(i, strings.ToUpper(list[i])), ErrDigest, place)
		}
		wrong(t, s.Put(0, list[1]), ErrDigest, "chunk 0: ")
		for i, chunk := range list {
			if err := s.Put(i, chunk); err != nil {
				t.Errorf("Put(%d): %v", i, err)
			}
		}
	}
	if !slices.Equal(s.chunks, list) {
		t.Errorf("the chunks are %q", s.chunks)
	}
}

// TestTree: what is missing is told ahead of what is wrong, the bytes ahead of the nodes, and these ahead of the root.
func TestTree(t *testing.T) {
	root := tree.Empty().With(keys.Bits("A"), "x").With(keys.Bits("B"), "y").Sealed(32)
	right, _ := wire.Stream(root.Nodes())
	for _, c := range []struct {
		stream string
		off    int
		want   error
		place  string
	}{
		{right, 1, ErrRoot, ""},
		{right[:len(right)-1], 1, wire.ErrShort, "stream: number 2: bytes: "},
		{right + "\x01\x03", 0, wire.ErrKind, "stream: number 3: node: kind: "},
		{right + right, 0, tree.ErrOver, "node 2: "},
		{right[:6], 0, tree.ErrPath, "node 0: "},
		{right[6:], 0, tree.ErrMissing, "node 0: "},
	} {
		s, list := begun(32, root.Digest()+c.off, 10, c.stream)
		for i := range list {
			_, err := s.Tree()
			wrong(t, err, ErrMissing, "chunk "+string([]byte{'0' + byte(i)})+": ")
			s.Put(i, list[i])
		}
		n, err := s.Tree()
		wrong(t, err, c.want, c.place)
		if n != nil {
			t.Errorf("%x: there is a tree", c.stream)
		}
	}
	s, list := begun(32, root.Digest(), 10, right)
	for i, chunk := range list {
		s.Put(i, chunk)
	}
	if n, err := s.Tree(); err != nil || n.Digest() != root.Digest() || !slices.Equal(n.Walk(), root.Walk()) {
		t.Errorf("the tree is another one: %v", err)
	}
}
