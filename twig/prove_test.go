package twig

import (
	"math/rand/v2"
	"strings"
	"testing"

	"twig/api"
)

// deepest has as many branches above one key as a tree can have: at each of a byte's bits, and where a key may end.
func deepest() model {
	m := model{"\xa5\x5a\x00\xff": "bottom"}
	for i := range 4 {
		for bit := range 8 {
			b := []byte("\xa5\x5a\x00\xff"[:i+1])
			b[i] ^= 1 << bit
			m[string(b)] = string(b)
		}
		m["\xa5\x5a\x00\xff"[:i+1]] = "on the way"
	}
	return m
}

func proveModels() []model {
	return []model{
		{},
		{"A": "x"},
		{"A": "x", "B": "y"},
		{"A": "", "AA": "x", "AAA": "x", "AAAA": strings.Repeat("v", 20)},
		{"\x00": "", "\x00\x00\x00\x00": "z", "\xff": "1", "\xff\xff\xff\xff": "2", "A": "3", "A\x00": "4", "A\xff": "5"},
		deepest(),
	}
}

func proveKeys() []string {
	return []string{"A", "B", "C", "AA", "AB", "AAA", "AAAA", "AAAB", "A\x00", "A\xff", "\x00", "\x00\x00", "\x00\x00\x00\x00", "\xff", "\xff\xff", "\xff\xff\xff\xff", "\x80", "\xa5\x5a\x00\xff", "\xa5\x5a\x00", "\xa5\x5a\x00\xfe", "\xa5\x5a\x40"}
}

// TestProve: P9, of keys that are there, and that are not, in trees of all shapes; each program is what Verify takes.
func TestProve(t *testing.T) {
	for width := 1; width <= 32; width++ {
		for _, m := range proveModels() {
			j := newJudge(t, width, m)
			for _, key := range proveKeys() {
				j.program(t, key, j.prove(t, key))
			}
			for key := range m {
				j.prove(t, key)
			}
			m.same(t, j.s, proveKeys()...)
			m.sameVersion(t, j.s, width, 1)
		}
	}
	p, _ := newJudge(t, 32, deepest()).s.Prove(1, "\xa5\x5a\x00\xff")
	if got, e := DecodeProof(p); len(got.Ups) != 35 || e != api.OK {
		t.Errorf("P9: the deepest proof has %d steps, %d", len(got.Ups), e)
	}
}

// TestProofExample: the bytes are those that the document writes out.
func TestProofExample(t *testing.T) {
	s := newStore(t, 32, model{"A": "x"})
	s.Commit()
	answers(t, "P6: Set", s.Set("B", "y"), api.OK)
	_, root, _ := s.Commit()
	d, _ := Digest(32, hx("00 02 00 01 79"))
	want := hx("05 00 02 80 01 78 01 00 07 a0") + string([]byte{byte(d >> 24), byte(d >> 16), byte(d >> 8), byte(d)})
	if p, e := s.Prove(2, "A"); p != want || e != api.OK {
		t.Errorf("P9: Prove(2, A) = %x, %d, want %x", p, e, want)
	}
	answers(t, "P10: Verify", Verify(32, root, "A", true, "x", want), api.OK)
	if p, e := s.Prove(1, "A"); p != hx("06 00 0a a0 80 01 78 00") || e != api.OK {
		t.Errorf("P9: Prove(1, A) = %x, %d", p, e)
	}
}

// TestProveOfVersions: what is not in a version yet, or not any more, makes no difference to its proofs.
func TestProveOfVersions(t *testing.T) {
	s, models := history(t, 32)
	answers(t, "P6: Set", s.Set("A", "now"), api.OK)
	answers(t, "P7: Prune", s.Prune(2), api.OK)
	delete(models, 2)
	for n, m := range models {
		j := &judge{s: s, m: m, tree: m.tree(t, 32), width: 32, version: n, root: m.root(t, 32)}
		for _, key := range proveKeys() {
			j.prove(t, key)
		}
	}
	models[6]["A"] = "now"
	models[6].same(t, s, proveKeys()...)
	models[6].commits(t, s, 32, 7)
}

// noProve expects an error of Prove and Collide, and nothing else.
func noProve(t *testing.T, s *Store, version int, key string, want api.Errno) {
	t.Helper()
	if p, e := s.Prove(version, key); p != "" || e != want {
		t.Errorf("P9: Prove(%d, %q) = %x, %d, want %d", version, key, p, e, want)
	}
	for _, program := range []string{"", hx("06 00 0a a0 80 01 78 00"), hx("01 02 00")} {
		if x, y, e := s.Collide(version, key, program); x != "" || y != "" || e != want {
			t.Errorf("P11: Collide(%d, %q, %x) = %x, %x, %d, want %d", version, key, program, x, y, e, want)
		}
	}
}

// TestNoProve: a version that is none is told ahead of a key that is none.
func TestNoProve(t *testing.T) {
	m := model{"A": "x"}
	s := newStore(t, 32, m)
	m.commits(t, s, 32, 1)
	m.commits(t, s, 32, 2)
	answers(t, "P7: Prune", s.Prune(1), api.OK)
	for _, key := range append([]string{"A", "B"}, noKeys...) {
		for _, n := range append([]int{0, 3}, far...) {
			noProve(t, s, n, key, api.ErrVersion)
			noProve(t, nil, n, key, api.ErrNil)
		}
		noProve(t, s, 1, key, api.ErrPruned)
		noProve(t, nil, 1, key, api.ErrNil)
	}
	for _, key := range noKeys {
		noProve(t, s, 2, key, api.ErrKey)
	}
	m.same(t, s, "B")
	m.sameVersion(t, s, 32, 2)
	m.commits(t, s, 32, 3)
}

// forged is a program, and the root at which it ends, whatever it is.
func forged(t *testing.T, width int, bottom api.Node, ups ...api.Up) (string, int) {
	t.Helper()
	p := api.Proof{Bottom: bottom, Ups: ups}
	b, e := EncodeProof(p)
	if e != api.OK {
		t.Fatalf("%v has no bytes", p)
	}
	list := chain(t, width, p)
	return b, nodeDigest(t, width, list[len(list)-1])
}

type forgery struct {
	bottom     api.Node
	ups        []api.Up
	there, not api.Errno
}

func steps(list ...api.Up) []api.Up { return list }

// forgeries are about "A", whose bits are 1010000010; their roots are right, and where there is a leaf so is its value, "x".
func forgeries() []forgery {
	const ok, no = api.OK, api.ErrProof
	leaf := func(path string) api.Node { return api.Node{Path: path, Value: "x"} }
	branch := func(path string) api.Node { return api.Node{Kind: api.Branch, Path: path, Left: 5, Right: 6} }
	whole := api.Up{Path: "101000001", Other: 7}
	high, low := api.Up{Side: 0, Path: "1", Other: 7}, api.Up{Side: 0, Path: "10", Other: 8}
	return []forgery{
		{leaf("1010000010"), nil, ok, no},
		{leaf("101000001"), nil, no, ok}, {leaf("10100000100"), nil, no, ok}, {leaf(""), nil, no, ok}, {leaf("0101111101"), nil, no, ok},
		{branch("0"), nil, no, ok}, {branch("11"), nil, no, ok}, {branch("1010000011"), nil, no, ok}, {branch("10100000100"), nil, no, ok},
		{branch(""), nil, no, no}, {branch("101"), nil, no, no}, {branch("101000001"), nil, no, no}, {branch("1010000010"), nil, no, no},
		{emptyNode(), nil, no, ok},
		{emptyNode(), steps(whole), no, no}, {emptyNode(), steps(high), no, no}, {emptyNode(), steps(low, high), no, no},
		{leaf("10"), steps(api.Up{Path: "1010000"}), ok, no}, {leaf("10"), steps(api.Up{Side: 1, Path: "1010000"}), no, no},
		{leaf("1"), steps(api.Up{Path: "1010000"}), no, ok}, {leaf("100"), steps(api.Up{Path: "1010000"}), no, ok}, {leaf("1010000010"), steps(api.Up{Path: "1010000"}), no, ok},
		{leaf("10"), steps(api.Up{Path: "1010001"}), no, no}, {leaf("00"), steps(api.Up{Path: "1010001"}), no, no}, {leaf("010000010"), steps(api.Up{Side: 1}), ok, no}, {leaf("010000010"), steps(api.Up{}), no, no},
		{branch("0"), steps(api.Up{Path: "1010000"}), no, ok}, {branch("101"), steps(api.Up{Path: "1010000"}), no, ok}, {branch("10"), steps(api.Up{Path: "1010000"}), no, no}, {branch("1"), steps(api.Up{Path: "1010000"}), no, no},
		{leaf(""), steps(whole), ok, no}, {leaf("0"), steps(whole), no, ok}, {branch("0"), steps(whole), no, ok}, {branch(""), steps(whole), no, no},
		{leaf(""), steps(api.Up{Path: "1010000010"}), no, no}, {leaf(""), steps(api.Up{}, whole), no, no}, {branch("0"), steps(api.Up{Path: "1010000010"}), no, no}, {leaf("0"), steps(api.Up{Path: ones(37)}), no, no},
		{leaf("00010"), steps(low, high), ok, no}, {leaf("0010"), steps(low, high), no, ok}, {branch("1"), steps(low, high), no, ok}, {branch("000"), steps(low, high), no, no},
		{leaf("00010"), steps(high, low), no, no}, {leaf("10"), steps(api.Up{Path: "00"}, low, high), ok, no}, {leaf("10"), steps(api.Up{Side: 1, Path: "00"}, low, high), no, no},
		{leaf("0000010"), steps(api.Up{Side: 1}, high), ok, no}, {leaf("0000010"), steps(high, api.Up{Side: 1}), no, no},
		{leaf("010000010"), steps(api.Up{Side: 1, Other: 1<<32 - 1}), ok, no}, {leaf("00010"), steps(low, api.Up{Path: "1", Other: 1<<32 - 1}), ok, no},
	}
}

// TestVerify: P10: each of what must hold is missing alone, at an edge, or not.
func TestVerify(t *testing.T) {
	for i, f := range forgeries() {
		for _, width := range []int{1, 7, 31, 32} {
			program, root := forged(t, width, f.bottom, f.ups...)
			for _, c := range []struct {
				there bool
				value string
				want  api.Errno
			}{
				{true, "x", f.there}, {false, "", f.not}, {false, "x", f.not}, {false, strings.Repeat("v", 21), f.not},
				{true, "", api.ErrProof}, {true, "y", api.ErrProof}, {true, "xx", api.ErrProof}, {true, "x\x00", api.ErrProof},
			} {
				if e := Verify(width, root, "A", c.there, c.value, program); e != c.want {
					t.Errorf("P10: forgery %d, width %d: Verify(%v, %q) = %d, want %d", i, width, c.there, c.value, e, c.want)
				}
			}
			for _, there := range []bool{true, false} {
				wrongPrograms(t, width, root, there, program)
			}
		}
	}
}

// wrongPrograms: another root, another key, and bytes that are no proof.
func wrongPrograms(t *testing.T, width, root int, there bool, program string) {
	t.Helper()
	for _, r := range append([]int{root ^ 1, root + 1, root - 1<<width, root + 1<<width, -root - 1, ^root}, far...) {
		if r != root {
			answers(t, "P10: Verify with another root", Verify(width, r, "A", there, "x", program), api.ErrProof)
		}
	}
	if there {
		answers(t, "P10: Verify of another key", Verify(width, root, "B", there, "x", program), api.ErrProof)
	}
	for _, p := range []string{"", program[1:], program[:len(program)-1], program + "\x00", "\x00" + program, program + program} {
		answers(t, "P10: Verify of no proof", Verify(width, root, "A", there, "x", p), api.ErrProof)
	}
}

// TestVerifyOrder: where several errors apply, the answer is the first one; a value that is none is one only of a key that is there.
func TestVerifyOrder(t *testing.T) {
	program, root := forged(t, 32, api.Node{Path: "1010000010", Value: "x"})
	none, empty := forged(t, 32, emptyNode())
	for _, value := range append([]string{"x"}, noValues...) {
		for _, p := range []string{program, none, ""} {
			for _, there := range []bool{true, false} {
				for _, width := range append([]int{0, 33}, far...) {
					for _, key := range append([]string{"A"}, noKeys...) {
						answers(t, "P10: Verify with no width", Verify(width, root, key, there, value, p), api.ErrWidth)
					}
				}
				for _, key := range noKeys {
					answers(t, "P10: Verify of no key", Verify(32, root, key, there, value, p), api.ErrKey)
				}
			}
			if value != "x" {
				answers(t, "P10: Verify of no value", Verify(32, root, "A", true, value, p), api.ErrValue)
			}
		}
		answers(t, "P10: Verify of what is not there", Verify(32, empty, "A", false, value, none), api.OK)
		answers(t, "P10: Verify of what is there", Verify(32, root, "A", false, value, program), api.ErrProof)
	}
}

// TestMostSteps: each bit of the longest key is a step, the last one's bottom has no bits.
func TestMostSteps(t *testing.T) {
	const key = "\xff\x00\xa5\xff"
	bits := modelBits(key)
	var ups []api.Up
	for i := range bits {
		ups = append(ups, api.Up{Side: int(bits[len(bits)-1-i] - '0'), Other: i})
	}
	for width := 1; width <= 32; width++ {
		program, root := forged(t, width, api.Node{Value: "x"}, ups...)
		answers(t, "P10: Verify of 37 steps", Verify(width, root, key, true, "x", program), api.OK)
		answers(t, "P10: Verify of 37 steps", Verify(width, root, key, false, "x", program), api.ErrProof)
		program, root = forged(t, width, api.Node{Kind: api.Branch, Path: "0"}, ups...)
		answers(t, "P10: Verify of 37 steps", Verify(width, root, key, false, "", program), api.OK)
		program, root = forged(t, width, api.Node{Kind: api.Branch}, ups...)
		answers(t, "P10: Verify of 37 steps", Verify(width, root, key, false, "", program), api.ErrProof)
	}
}

// TestSpoiltPrograms: P10, P11, P16: what is near a program is judged by the promises, at widths at which much is taken, and at one at which nothing ought to be.
func TestSpoiltPrograms(t *testing.T) {
	for _, width := range []int{1, 3, 32} {
		j := newJudge(t, width, model{"A": "x", "AA": "y", "\xf0": "z"})
		for _, key := range []string{"A", "AA", "AB", "\x80"} {
			spoilt(j.prove(t, key), func(p string) { j.program(t, key, p) })
		}
		if width < 32 && j.found < 100 || width == 32 && j.found > 0 {
			t.Errorf("P16: width %d: %d programs are taken, %d of what is wrong", width, j.taken, j.found)
		}
	}
}

// TestForgedPrograms: programs made by chance (of a fixed seed), most of them on the key's way, until many of them have the root.
func TestForgedPrograms(t *testing.T) {
	r := rand.New(rand.NewPCG(3, 9))
	for _, width := range []int{1, 2, 4} {
		for _, m := range proveModels() {
			j := newJudge(t, width, m)
			for range 2000 {
				key := proveKeys()[r.IntN(len(proveKeys()))]
				b, e := EncodeProof(forgedProof(r, modelBits(key), j.tree.prove(modelBits(key))))
				if e != api.OK {
					t.Fatal("a forged proof without bytes")
				}
				j.program(t, key, b)
			}
			if j.found < 20 {
				t.Errorf("P16: width %d: %d forged programs are taken, %d of what is wrong", width, j.taken, j.found)
			}
		}
	}
}

// forgedProof begins like the right one, from the root down, and goes on as it likes.
func forgedProof(r *rand.Rand, bits string, right api.Proof) api.Proof {
	keep := r.IntN(len(right.Ups) + 1)
	ups := append([]api.Up(nil), right.Ups[len(right.Ups)-keep:]...)
	for _, up := range ups {
		bits = bits[len(up.Path)+1:]
	}
	for r.IntN(3) > 0 && len(bits) > 1 {
		n := r.IntN(len(bits))
		up := api.Up{Side: int(bits[n] - '0'), Path: bits[:n], Other: int(r.Uint32N(16))}
		ups, bits = append([]api.Up{up}, ups...), bits[n+1:]
	}
	n := r.IntN(len(bits) + 1)
	bottoms := []api.Node{
		emptyNode(), {Path: bits, Value: "forged"}, {Path: bits[:n], Value: "x"}, {Kind: api.Branch, Path: "0" + bits[:min(n, 36)], Left: r.IntN(16)},
		{Kind: api.Branch, Path: bits[:n], Right: r.IntN(16)}, {Path: bits, Value: string([]byte{byte(r.IntN(256))})}, right.Bottom,
	}
	return api.Proof{Bottom: bottoms[r.IntN(len(bottoms))], Ups: ups}
}
