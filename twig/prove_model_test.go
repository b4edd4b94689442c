package twig

import (
	"strings"
	"testing"

	"twig/api"
)

// prove is P9, word by word.
func (m *modelNode) prove(bits string) api.Proof {
	if m.n.Kind != api.Branch || !strings.HasPrefix(bits, m.n.Path) {
		return api.Proof{Bottom: m.n}
	}
	side := int(bits[len(m.n.Path)] - '0')
	p := m.sides[side].prove(bits[len(m.n.Path)+1:])
	other := m.n.Right
	if side == 1 {
		other = m.n.Left
	}
	p.Ups = append(p.Ups, api.Up{Side: side, Path: m.n.Path, Other: other})
	return p
}

// chain is the bottom, and the branches that the steps make, from the lowest on; of a proof that has bytes.
func chain(t *testing.T, width int, p api.Proof) []api.Node {
	t.Helper()
	list := []api.Node{p.Bottom}
	for _, up := range p.Ups {
		d := nodeDigest(t, width, list[len(list)-1])
		n := api.Node{Kind: api.Branch, Path: up.Path, Left: d, Right: up.Other}
		if up.Side == 1 {
			n.Left, n.Right = up.Other, d
		}
		list = append(list, n)
	}
	return list
}

// proves is P10 behind ErrValue, word by word.
func proves(t *testing.T, width, root int, key string, there bool, value, program string) bool {
	t.Helper()
	p, e := DecodeProof(program)
	if e != api.OK {
		return false
	}
	rest := modelBits(key)
	for i := len(p.Ups) - 1; i >= 0; i-- {
		part := p.Ups[i].Path + string([]byte{'0' + byte(p.Ups[i].Side)})
		if !strings.HasPrefix(rest, part) {
			return false
		}
		rest = rest[len(part):]
	}
	b, fits := p.Bottom, false
	if there {
		fits = b.Kind == api.Leaf && b.Value == value && b.Path == rest
	} else {
		fits = b.Kind == api.Empty && len(p.Ups) == 0 || b.Kind == api.Leaf && b.Path != rest || b.Kind == api.Branch && !strings.HasPrefix(rest, b.Path)
	}
	list := chain(t, width, p)
	return fits && nodeDigest(t, width, list[len(list)-1]) == root
}

// collides is the two nodes of P11, word by word.
func (m *modelNode) collides(t *testing.T, width int, key, program string) (api.Node, api.Node) {
	t.Helper()
	p, _ := DecodeProof(program)
	list, bits := chain(t, width, p), modelBits(key)
	for i := len(list) - 1; i >= 0; i-- {
		if list[i] != m.n {
			return list[i], m.n
		}
		if i > 0 {
			side := bits[len(m.n.Path)] - '0'
			m, bits = m.sides[side], bits[len(m.n.Path)+1:]
		}
	}
	t.Fatalf("P16: %x proves what is wrong about %q, and all of it is in the tree", program, key)
	return api.Node{}, api.Node{}
}

// judge is a store's version with its model: it holds what is answered to any program against the promises.
type judge struct {
	s              *Store
	m              model
	tree           *modelNode
	width, version int
	root           int
	taken, found   int
}

func newJudge(t *testing.T, width int, m model) *judge {
	t.Helper()
	s := newStore(t, width, m)
	version, root, e := s.Commit()
	answers(t, "P7: Commit", e, api.OK)
	return &judge{s: s, m: m, tree: m.tree(t, width), width: width, version: version, root: root}
}

// program holds Verify and Collide to P10, P11 and P16.
func (j *judge) program(t *testing.T, key, program string) {
	t.Helper()
	value, there := j.m[key]
	p, _ := DecodeProof(program)
	wrong := false
	for _, v := range []string{p.Bottom.Value, value, "", "another"} {
		for _, claim := range []bool{true, false} {
			want := api.ErrProof
			if proves(t, j.width, j.root, key, claim, v, program) {
				want = api.OK
				j.taken++
				wrong = wrong || claim != there || claim && v != value
			}
			if e := Verify(j.width, j.root, key, claim, v, program); e != want {
				t.Errorf("P10: Verify(%d, %d, %q, %v, %q, %x) = %d, want %d", j.width, j.root, key, claim, v, program, e, want)
			}
		}
	}
	j.collide(t, key, program, wrong)
}

func (j *judge) collide(t *testing.T, key, program string, wrong bool) {
	t.Helper()
	x, y, e := j.s.Collide(j.version, key, program)
	if !wrong {
		if x != "" || y != "" || e != api.ErrProof {
			t.Errorf("P11: Collide(%q, %x), width %d = %x, %x, %d", key, program, j.width, x, y, e)
		}
		return
	}
	j.found++
	one, two := j.tree.collides(t, j.width, key, program)
	a, _ := EncodeNode(one)
	b, _ := EncodeNode(two)
	if x != a || y != b || e != api.OK {
		t.Errorf("P11: Collide(%q, %x), width %d = %x, %x, %d, want %x, %x", key, program, j.width, x, y, e, a, b)
	}
	c, _ := Digest(j.width, x)
	d, _ := Digest(j.width, y)
	if x == y || c != d {
		t.Errorf("P16: Collide(%q, %x), width %d: %x and %x have the digests %d and %d", key, program, j.width, x, y, c, d)
	}
}

// prove is what Prove answers, held to P9 and P15.
func (j *judge) prove(t *testing.T, key string) string {
	t.Helper()
	want, e := EncodeProof(j.tree.prove(modelBits(key)))
	if e != api.OK {
		t.Fatalf("P9: the proof of %q has no bytes", key)
	}
	got, e := j.s.Prove(j.version, key)
	if got != want || e != api.OK {
		t.Errorf("P9: Prove(%q), width %d = %x, %d, want %x", key, j.width, got, e, want)
	}
	value, there := j.m[key]
	if e := Verify(j.width, j.root, key, there, value, got); e != api.OK {
		t.Errorf("P15: Verify(%q, %v, %q, %x), width %d = %d", key, there, value, got, j.width, e)
	}
	return got
}
