package twig

import (
	"fmt"
	"maps"
	"math/rand/v2"
	"slices"
	"strings"
	"testing"

	"twig/api"
)

// exported is what a store of the model says of its first version.
func exported(t *testing.T, width, size int, m model) (string, []string) {
	t.Helper()
	s := newStore(t, width, m)
	s.Commit()
	manifest, list, e := s.Export(1, size)
	answers(t, "P12: Export", e, api.OK)
	return manifest, list
}

// TestNewImport: P13: what DecodeManifest takes, and nothing else.
func TestNewImport(t *testing.T) {
	try := func(b string) {
		_, e := DecodeManifest(b)
		if i, f := NewImport(b); f != e || (i != nil) != (e == api.OK) {
			t.Errorf("P13: NewImport(%x): %d, want %d", b, f, e)
		}
	}
	for _, c := range manifestCases() {
		try(hx(c.b))
		spoilt(hx(c.b), try)
	}
	for _, b := range []string{"", "\x02", "\x01\x02", strings.Repeat("\x00", 11), strings.Repeat("\x20", 1<<20)} {
		if i, e := NewImport(b); i != nil || e != api.ErrBytes {
			t.Errorf("P13: NewImport(%.20x): %d", b, e)
		}
	}
}

// TestOffer: numbers beside those that there are; chunks of a byte more and less, of another place, with another byte. Nothing that is refused changes what is there.
func TestOffer(t *testing.T) {
	m := model{"A": "x", "AA": "y", "B": "z"}
	total := len(m.tree(t, 32).stream(t))
	for _, size := range []int{8, 9, total / 2, total - 1, total, 1000} {
		manifest, list := exported(t, 32, size, m)
		i := importOf(t, manifest)
		for range 2 {
			for index, chunk := range list {
				for _, n := range append([]int{-1, len(list), len(list) + 1}, far...) {
					answers(t, "P13: Offer of no number", i.Offer(n, chunk), api.ErrIndex)
					answers(t, "P13: Offer of no number and no chunk", i.Offer(n, ""), api.ErrIndex)
				}
				for _, other := range []string{"", chunk[1:], chunk[:len(chunk)-1], chunk + "\x00", "\x00" + chunk, chunk + chunk, strings.Repeat("\x00", len(chunk)), list[(index+1)%len(list)]} {
					if other != chunk {
						answers(t, "P13: Offer of another chunk", i.Offer(index, other), api.ErrChunk)
					}
				}
			}
			for index := range list {
				answers(t, "P13: Offer", i.Offer(index, list[index]), api.OK)
			}
		}
		m.sameVersion(t, finish(t, i), 32, 1)
	}
}

// TestLastChunk: a shorter last chunk has just the bytes that are left, whatever their digests; a last chunk that is not shorter has them all.
func TestLastChunk(t *testing.T) {
	for _, c := range []struct{ size, total, last int }{{8, 1, 1}, {8, 7, 7}, {8, 8, 8}, {8, 9, 1}, {8, 16, 8}, {8, 17, 1}, {1000, 1000, 1000}, {1000, 1001, 1}, {1000, 100000, 1000}, {999, 100000, 100}, {8, 100000, 8}} {
		stream := strings.Repeat("\x00", c.total)
		manifest, list := modelExport(t, 1, 0, c.size, stream)
		i := importOf(t, manifest)
		// At the width 1, of any two lengths some texts have the digest of the last chunk.
		for n := max(c.last-1, 0); n <= c.last+1; n++ {
			taken := 0
			for b := range 256 {
				chunk := strings.Repeat(string([]byte{byte(b)}), n)
				if d, _ := Digest(1, chunk); d != digestOfLast(t, list) {
					answers(t, "P13: Offer of another digest", i.Offer(len(list)-1, chunk), api.ErrChunk)
				} else if e := i.Offer(len(list)-1, chunk); e == api.OK {
					taken++
				} else {
					answers(t, "P13: Offer of another length", e, api.ErrChunk)
				}
			}
			if (taken > 0) != (n == c.last) {
				t.Errorf("P13: of %v, %d chunks of %d bytes are taken", c, taken, n)
			}
		}
	}
}

func digestOfLast(t *testing.T, list []string) int {
	t.Helper()
	d, e := Digest(1, list[len(list)-1])
	answers(t, "P3: Digest", e, api.OK)
	return d
}

// TestOrdersOfChunks: in every order, some twice, wrong ones in between; it can't be finished ahead of the last one, and after it again and again.
func TestOrdersOfChunks(t *testing.T) {
	m := model{"A": "x", "AA": "y", "B": "z", "\xff": "w"}
	manifest, list := exported(t, 32, 18, m)
	if len(list) != 4 {
		t.Fatalf("there are %d chunks", len(list))
	}
	for order := range 256 {
		i := importOf(t, manifest)
		there := map[int]bool{}
		for _, index := range []int{order % 4, order / 4 % 4, order / 16 % 4, order / 64, 2, 0, 3, 1} {
			answers(t, "P13: Offer of another chunk", i.Offer(index, strings.Repeat("\xff", len(list[index]))), api.ErrChunk)
			if len(there) < 4 {
				noFinish(t, i, api.ErrMore)
			}
			answers(t, "P13: Offer", i.Offer(index, list[index]), api.OK)
			there[index] = true
			answers(t, "P13: Offer of another chunk", i.Offer(index, list[(index+1)%4]), api.ErrChunk)
			if len(there) == 4 {
				m.sameVersion(t, finish(t, i), 32, 1)
			}
		}
		exports(t, finish(t, i), 1, 18, manifest, list)
	}
}

// TestMissing: each chunk is missing alone, first and last ones too; what else is wrong is told after it.
func TestMissing(t *testing.T) {
	rubbish, chunks := modelExport(t, 32, 7, 8, strings.Repeat("?", 30))
	manifest, list := exported(t, 32, 8, model{"A": "x", "B": "y"})
	for _, c := range []struct {
		manifest string
		list     []string
	}{{manifest, list}, {rubbish, chunks}} {
		for missing := range c.list {
			i := importOf(t, c.manifest)
			noFinish(t, i, api.ErrMore)
			for index, chunk := range c.list {
				if index != missing {
					answers(t, "P13: Offer", i.Offer(index, chunk), api.OK)
				}
			}
			noFinish(t, i, api.ErrMore)
			noFinish(t, i, api.ErrMore)
		}
	}
	noFinish(t, offered(t, rubbish, chunks), api.ErrTree)
}

// TestReplaced: of few bits there are other chunks of the same digest: the one that came last is there, whether a tree comes of it, one of another root, another one of the same root, or none.
func TestReplaced(t *testing.T) {
	const width = 2
	right := model{"A": "x"}
	manifest, list := exported(t, width, 8, right)
	i := importOf(t, manifest)
	noFinish(t, i, api.ErrMore)
	root, found := right.root(t, width), map[api.Errno]int{}
	for b := range 256 * 7 {
		chunk := list[0][:b%7] + string([]byte{byte(b / 7)}) + list[0][b%7+1:]
		d, _ := Digest(width, chunk)
		if want, _ := Digest(width, list[0]); d != want {
			answers(t, "P13: Offer of another digest", i.Offer(0, chunk), api.ErrChunk)
			continue
		}
		answers(t, "P13: Offer of the same digest", i.Offer(0, chunk), api.OK)
		m, is := streamModel(t, width, chunk)
		want := api.OK
		if !is {
			want = api.ErrTree
		} else if m.root(t, width) != root {
			want = api.ErrRoot
		}
		found[want]++
		if want != api.OK {
			noFinish(t, i, want)
			continue
		}
		m.sameVersion(t, finish(t, i), width, 1)
	}
	if found[api.OK] < 10 || found[api.ErrTree] < 10 || found[api.ErrRoot] < 10 {
		t.Errorf("P14: of the chunks that were taken came %v", found)
	}
	answers(t, "P13: Offer", i.Offer(0, list[0]), api.OK)
	right.sameVersion(t, finish(t, i), width, 1)
}

// joined is the stream of a branch with any path above any two streams, the digests of which are right.
func joined(t *testing.T, width int, path string, left, right string) string {
	t.Helper()
	digests := [2]int{}
	for side, s := range []string{left, right} {
		top := s
		for len(top) > 1+int(top[0]) {
			top = top[1+int(top[0]):]
		}
		digests[side], _ = Digest(width, top[1:])
	}
	b, e := EncodeNode(api.Node{Kind: api.Branch, Path: path, Left: digests[0], Right: digests[1]})
	answers(t, "P4: EncodeNode", e, api.OK)
	return left + right + string([]byte{byte(len(b))}) + b
}

// TestNoStreams: P14: each stream has one thing wrong.
func TestNoStreams(t *testing.T) {
	for _, width := range []int{1, 8, 32} {
		leaf := func(path, value string) string {
			return (&modelNode{n: api.Node{Path: path, Value: value}}).stream(t)
		}
		a, b := leaf("10", "x"), leaf("00", "y")
		both := joined(t, width, "1010000", a, b)
		whole, none := leaf("1010000010", "x"), "\x01\x02"
		for i, stream := range []string{
			// no keys' bits
			a, leaf("", "x"), leaf("0", "x"), leaf("1", "x"), leaf("101000001", "x"), leaf("1010000011", "x"), leaf("0010000010", "x"), leaf("10100000100", "x"), leaf(ones(37), "x"), leaf(ones(36), "x"),
			joined(t, width, "101000", a, b), joined(t, width, "10100000", a, b), joined(t, width, "0010000", a, b), joined(t, width, "", a, b), joined(t, width, ones(37), a, b), joined(t, width, ones(36), leaf("", ""), leaf("", "")),
			joined(t, width, "1010000", leaf("1", "x"), b), joined(t, width, "1010000", a, leaf("000", "y")), joined(t, width, "1010000", a, whole), joined(t, width, "", whole, whole),
			joined(t, width, "", leaf("", "x"), leaf("010000010", "x")), joined(t, width, "", both, both), joined(t, width, ones(36), leaf("", ""), leaf("1111111110", "")),
			// nodes that are not the kind's, and bytes that are no nodes
			"?", "\x00", "\x01", "\x01\x03", "\x02\x02\x00", "\x81\x00\x02", hx("06 00 0a a0 81 01 78"), hx("07 00 8a 00 a0 80 01 78"), whole[:len(whole)-1], both[:len(both)-1], both[:len(both)-5], hx("07 00 0a a0 80 02 78"),
			hx("08 00 0a a0 80 81 00 78"), hx("87 00 00 0a a0 80 01 78"), hx("06 02 0a a0 80 01 78"), hx("06 01 0a a0 80 01 78"),
			// bytes and nodes left over, or missing
			both + "\x00", both + none, none + both, both + both, whole + whole, whole + none, none + none, none + whole, "\x00" + both, a + b, both[len(a):], both[len(a+b):], a + both[len(a+b):], both + both[len(a+b):],
			// an empty node below a branch
			joined(t, width, "1010000", none, b), joined(t, width, "1010000", a, none), joined(t, width, "", none, none), joined(t, width, "", none, leaf("010000010", "x")), joined(t, width, "1010000010", none, whole),
			// a value that is none
			hx("1a 00 0a a0 80 15" + strings.Repeat("76", 21)),
		} {
			if judgeStream(t, width, 0, stream) {
				t.Errorf("P14: width %d: stream %d is a tree's", width, i)
			}
		}
		for _, stream := range []string{none, whole, both, leaf("1010000010", ""), leaf(ones(36)+"0", strings.Repeat("v", 20)), joined(t, width, ones(36)[:27], leaf("", ""), leaf("111111110", ""))} {
			if !judgeStream(t, width, 0, stream) {
				t.Errorf("P14: width %d: %x is no tree's", width, stream)
			}
		}
	}
}

// TestNoDigests: P14: each of a branch's digests is another one, or that of another width.
func TestNoDigests(t *testing.T) {
	m := model{"A": "x", "B": "y", "C": "z"}
	for _, width := range []int{1, 7, 31, 32} {
		stream := m.tree(t, width).stream(t)
		for place := len(stream) - 8; place < len(stream); place++ {
			for bit := range 8 {
				other := []byte(stream)
				other[place] ^= 1 << bit
				if judgeStream(t, width, m.root(t, width), string(other)) {
					t.Errorf("P14: width %d: %x is a tree's", width, other)
				}
			}
		}
	}
	if judgeStream(t, 31, 0, m.tree(t, 32).stream(t)) || judgeStream(t, 32, 0, m.tree(t, 31).stream(t)) {
		t.Error("P14: digests of another width are a tree's")
	}
}

// TestSpoiltStreams: what is near a stream is judged by the promise, with digests of its own.
func TestSpoiltStreams(t *testing.T) {
	for _, width := range []int{1, 2, 32} {
		for _, m := range []model{{}, {"A": "x"}, {"A": "x", "B": "y"}, {"A": "", "AA": "z"}} {
			taken, root := 0, m.root(t, width)
			spoilt(m.tree(t, width).stream(t), func(b string) {
				if b != "" && judgeStream(t, width, root, b) {
					taken++
				}
			})
			if len(m) > 0 && taken < 100 && width == 1 {
				t.Errorf("P14: of what is near %v, width %d, %d are trees'", m, width, taken)
			}
		}
	}
}

// TestImported: what comes of an import is a store like others.
func TestImported(t *testing.T) {
	for _, width := range []int{1, 32} {
		for _, m := range proveModels() {
			manifest, list := exported(t, width, 100, m)
			i := offered(t, manifest, list)
			s, q := finish(t, i), finish(t, i)
			m.same(t, s, proveKeys()...)
			noVersion(t, s, 2, api.ErrVersion)
			noVersion(t, s, 0, api.ErrVersion)
			answers(t, "P6: Set", s.Set("new", "n"), api.OK)
			answers(t, "P7: Load", s.Load(1), api.OK)
			m.same(t, s, append(proveKeys(), "new")...)
			m.commits(t, s, width, 2)
			m.sameVersion(t, s, width, 1)
			answers(t, "P6: Set", s.Set("A", "other"), api.OK)
			answers(t, "P7: Prune", s.Prune(1), api.OK)
			noVersion(t, s, 1, api.ErrPruned)
			noExport(t, s, 1, 100, api.ErrPruned)
			// P2: neither the other store nor the import has to do with it.
			m.same(t, q, append(proveKeys(), "new")...)
			m.sameVersion(t, q, width, 1)
			m.commits(t, q, width, 2)
			m.sameVersion(t, finish(t, i), width, 1)
		}
	}
}

// TestImportedProofs: P9 to P11, P15, P16 of what comes of an import.
func TestImportedProofs(t *testing.T) {
	r := rand.New(rand.NewPCG(12, 14))
	for _, width := range []int{1, 3, 32} {
		for _, m := range proveModels() {
			manifest, list := exported(t, width, 64, m)
			j := &judge{s: finish(t, offered(t, manifest, list)), m: m, tree: m.tree(t, width), width: width, version: 1, root: m.root(t, width)}
			for _, key := range proveKeys() {
				j.program(t, key, j.prove(t, key))
			}
			for range 500 {
				key := proveKeys()[r.IntN(len(proveKeys()))]
				b, _ := EncodeProof(forgedProof(r, modelBits(key), j.tree.prove(modelBits(key))))
				j.program(t, key, b)
			}
			if width == 1 && j.found < 20 || width == 32 && j.found > 0 {
				t.Errorf("P16: width %d: %d programs are taken, %d of what is wrong", width, j.taken, j.found)
			}
		}
	}
}

// TestImportsApart: P2: what is offered to one import is not there in another one of the same manifest; the list that came out may be changed.
func TestImportsApart(t *testing.T) {
	m := model{"A": "x", "B": "y"}
	manifest, list := exported(t, 32, 8, m)
	i, q := importOf(t, manifest), importOf(t, manifest)
	for index, chunk := range slices.Clone(list) {
		answers(t, "P13: Offer", i.Offer(index, chunk), api.OK)
		list[index] = "mine"
	}
	noFinish(t, q, api.ErrMore)
	m.sameVersion(t, finish(t, i), 32, 1)
	noFinish(t, q, api.ErrMore)
}

// TestNilImport: P1: ahead of all else that is wrong.
func TestNilImport(t *testing.T) {
	var i *Import
	noFinish(t, i, api.ErrNil)
	for _, n := range append([]int{0, 1}, far...) {
		for _, chunk := range []string{"", "\x01\x02", strings.Repeat("?", 2000)} {
			answers(t, "P1: Offer", i.Offer(n, chunk), api.ErrNil)
		}
	}
}

// TestCarried: P15: stores that were led by chance (of a fixed seed), their chunks in any order; from store to store to store.
func TestCarried(t *testing.T) {
	for _, width := range []int{1, 2, 5, 32} {
		r := rand.New(rand.NewPCG(uint64(width), 15))
		c := &course{newStore(t, width, nil), width, r, model{}, map[int]model{}, 0}
		for round := range 20 {
			for range 100 {
				c.step(t)
			}
			c.newest++
			c.now.commits(t, c.s, width, c.newest)
			c.models[c.newest] = maps.Clone(c.now)
			size := 8 + r.IntN(993)
			manifest, list, e := c.s.Export(c.newest, size)
			answers(t, fmt.Sprint("P12: Export, round ", round), e, api.OK)
			i := importOf(t, manifest)
			for _, index := range r.Perm(len(list)) {
				answers(t, "P13: Offer", i.Offer(index, list[index]), api.OK)
			}
			x := finish(t, i)
			c.now.same(t, x, c.text("\x00A\xff", 1, 4))
			y := c.now.carries(t, x, width, 1, size)
			c.now.carries(t, y, width, 1, 8)
		}
	}
}
