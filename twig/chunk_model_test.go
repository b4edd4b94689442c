package twig

import (
	"slices"
	"strings"
	"testing"

	"twig/api"
)

// stream is P12's, word by word.
func (m *modelNode) stream(t *testing.T) string {
	t.Helper()
	b, e := EncodeNode(m.n)
	if e != api.OK {
		t.Fatalf("P12: %v has no bytes", m.n)
	}
	own := string([]byte{byte(len(b))}) + b
	if m.n.Kind != api.Branch {
		return own
	}
	return m.sides[0].stream(t) + m.sides[1].stream(t) + own
}

// modelExport is the manifest and the chunks of a stream, whatever that is.
func modelExport(t *testing.T, width, root, size int, stream string) (string, []string) {
	t.Helper()
	m := api.Manifest{Width: width, Root: root, Size: size, Total: len(stream)}
	var list []string
	for from := 0; from < len(stream); from += size {
		chunk := stream[from:min(from+size, len(stream))]
		d, _ := Digest(width, chunk)
		list, m.Digests = append(list, chunk), append(m.Digests, d)
	}
	b, e := EncodeManifest(m)
	if e != api.OK {
		t.Fatalf("P4: of %d bytes in chunks of %d there is no manifest", len(stream), size)
	}
	return b, list
}

func importOf(t *testing.T, manifest string) *Import {
	t.Helper()
	i, e := NewImport(manifest)
	if i == nil || e != api.OK {
		t.Fatalf("P13: NewImport: %d", e)
	}
	return i
}

// offered is an import that has all of the chunks.
func offered(t *testing.T, manifest string, list []string) *Import {
	t.Helper()
	i := importOf(t, manifest)
	for index, chunk := range list {
		answers(t, "P13: Offer", i.Offer(index, chunk), api.OK)
	}
	return i
}

// streamed is an import that has all of a stream, in one chunk or some.
func streamed(t *testing.T, width, root int, stream string) *Import {
	t.Helper()
	manifest, list := modelExport(t, width, root, max(8, min(len(stream), 1000)), stream)
	return offered(t, manifest, list)
}

func finish(t *testing.T, i *Import) *Store {
	t.Helper()
	s, e := i.Finish()
	if s == nil || e != api.OK {
		t.Fatalf("P14: Finish: %d", e)
	}
	return s
}

func noFinish(t *testing.T, i *Import, want api.Errno) {
	t.Helper()
	if s, e := i.Finish(); s != nil || e != want {
		t.Errorf("P14: Finish: %d, want %d", e, want)
	}
}

// leaves is the bits and the values of what a stream may be of, if anything: it does not ask for more than it needs to find them.
func leaves(stream string) ([][2]string, bool) {
	var trees [][][2]string
	for stream != "" {
		count := int(stream[0])
		if count >= len(stream) {
			return nil, false
		}
		n, e := DecodeNode(stream[1 : 1+count])
		stream = stream[1+count:]
		last := len(trees)
		switch {
		case e != api.OK:
			return nil, false
		case n.Kind == api.Empty:
			trees = append(trees, nil)
		case n.Kind == api.Leaf:
			trees = append(trees, [][2]string{{n.Path, n.Value}})
		case last < 2:
			return nil, false
		default:
			var both [][2]string
			for side, l := range trees[last-2:] {
				for _, one := range l {
					both = append(both, [2]string{n.Path + "01"[side:side+1] + one[0], one[1]})
				}
			}
			trees = append(trees[:last-2], both)
		}
	}
	if len(trees) != 1 {
		return nil, false
	}
	return trees[0], true
}

// keyOf is of what the model knows of the keys' bits: it tries the bytes that they would be of.
func keyOf(bits string) (string, bool) {
	var key []byte
	for i := 1; i+8 < len(bits); i += 9 {
		var b byte
		for _, sign := range bits[i : i+8] {
			b = 2*b + byte(sign-'0')
		}
		key = append(key, b)
	}
	return string(key), len(key) > 0 && len(key) <= 4 && modelBits(string(key)) == bits
}

// streamModel is the keys and values of the tree of which this is the stream, if there is one: then the model's own stream is the same.
func streamModel(t *testing.T, width int, stream string) (model, bool) {
	t.Helper()
	list, found := leaves(stream)
	m := model{}
	for _, one := range list {
		key, is := keyOf(one[0])
		found = found && is
		m[key] = one[1]
	}
	return m, found && m.tree(t, width).stream(t) == stream
}

// judgeStream holds Finish of a stream to P14, with the root that it has, if any, and with another one.
func judgeStream(t *testing.T, width, root int, stream string) bool {
	t.Helper()
	m, is := streamModel(t, width, stream)
	if !is {
		noFinish(t, streamed(t, width, root, stream), api.ErrTree)
		return false
	}
	noFinish(t, streamed(t, width, m.root(t, width)^1, stream), api.ErrRoot)
	if m.root(t, width) != root {
		noFinish(t, streamed(t, width, root, stream), api.ErrRoot)
	}
	m.sameVersion(t, finish(t, streamed(t, width, m.root(t, width), stream)), width, 1)
	return true
}

// carries expects what came out to be the model's, and the store that comes of it to have all that the model has.
func (m model) carries(t *testing.T, s *Store, width, version, size int) *Store {
	t.Helper()
	root := m.tree(t, width)
	manifest, list := modelExport(t, width, nodeDigest(t, width, root.n), size, root.stream(t))
	exports(t, s, version, size, manifest, list)
	x := finish(t, offered(t, manifest, list))
	m.sameVersion(t, x, width, 1)
	exports(t, x, 1, size, manifest, list)
	return x
}

func exports(t *testing.T, s *Store, version, size int, manifest string, list []string) {
	t.Helper()
	if b, got, e := s.Export(version, size); b != manifest || !slices.Equal(got, list) || e != api.OK {
		t.Errorf("P12: Export(%d, %d) = %.200x, %.200x, %d, want %.200x, %.200x", version, size, b, strings.Join(got, ","), e, manifest, strings.Join(list, ","))
	}
}

func noExport(t *testing.T, s *Store, version, size int, want api.Errno) {
	t.Helper()
	if b, list, e := s.Export(version, size); b != "" || len(list) != 0 || e != want {
		t.Errorf("P12: Export(%d, %d) = %.200x, %d chunks, %d, want %d", version, size, b, len(list), e, want)
	}
}
