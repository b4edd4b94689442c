package twig

import (
	"reflect"
	"slices"
	"strings"
	"testing"

	"twig/api"
)

type proofCase struct {
	p api.Proof
	b string
}

func proofCases() []proofCase {
	leaf := api.Node{Path: "10", Value: "x"}
	return []proofCase{
		{api.Proof{Bottom: emptyNode()}, "01 02 00"},
		{api.Proof{Bottom: api.Node{}}, "03 00 00 00 00"},
		{api.Proof{Bottom: leaf, Ups: []api.Up{{Path: "1010000", Other: 258}}}, "05 00 02 80 01 78 01 00 07 a0 00 00 01 02"},
		{api.Proof{Bottom: leaf, Ups: []api.Up{{Side: 0, Path: "1010000", Other: 7}, {Side: 1, Path: "", Other: 1<<32 - 1}}}, "05 00 02 80 01 78 02 00 07 a0 00 00 00 07 01 00 ff ff ff ff"},
		{api.Proof{Bottom: api.Node{Kind: api.Branch, Path: "101", Left: 5, Right: 6}, Ups: []api.Up{{Side: 1, Path: ones(37)}}}, "0b 01 03 a0 00 00 00 05 00 00 00 06 01 01 25 ff ff ff ff f8 00 00 00 00"},
		{api.Proof{Bottom: api.Node{Path: ones(37), Value: strings.Repeat("v", 20)}}, "1c 00 25 ff ff ff ff f8 14" + strings.Repeat("76", 20) + "00"},
	}
}

func sameProof(p, q api.Proof) bool { return p.Bottom == q.Bottom && slices.Equal(p.Ups, q.Ups) }

func noProof(p api.Proof) bool { return reflect.DeepEqual(p, api.Proof{}) }

func TestProofBytes(t *testing.T) {
	for _, c := range proofCases() {
		if b, e := EncodeProof(c.p); b != hx(c.b) || e != api.OK {
			t.Errorf("P4: EncodeProof(%v) = %x, %d, want %s", c.p, b, e, c.b)
		}
		if p, e := DecodeProof(hx(c.b)); !sameProof(p, c.p) || e != api.OK {
			t.Errorf("P4: DecodeProof(%s) = %v, %d, want %v", c.b, p, e, c.p)
		}
	}
	if b, e := EncodeProof(api.Proof{Bottom: emptyNode(), Ups: []api.Up{}}); b != hx("01 02 00") || e != api.OK {
		t.Errorf("P4: EncodeProof with an empty list = %x, %d", b, e)
	}
}

func TestStepsOfAllNumbers(t *testing.T) {
	for steps := range api.MaxBits + 1 {
		p := api.Proof{Bottom: emptyNode(), Ups: make([]api.Up, steps)}
		for i := range p.Ups {
			p.Ups[i] = api.Up{Side: i % 2, Path: ones(i), Other: i}
		}
		b, e := EncodeProof(p)
		if e != api.OK || b[2] != byte(steps) {
			t.Errorf("P4: EncodeProof of %d steps = %x, %d", steps, b, e)
		}
		if got, e := DecodeProof(b); !sameProof(got, p) || e != api.OK {
			t.Errorf("P4: DecodeProof of %d steps = %v, %d", steps, got, e)
		}
	}
}

func TestProofsWithoutBytes(t *testing.T) {
	proofs := []api.Proof{
		{Bottom: api.Node{Kind: 3}}, {Bottom: api.Node{Left: 1}}, {Bottom: api.Node{Path: "x"}}, {Bottom: api.Node{Value: strings.Repeat("v", 21)}},
		{Bottom: emptyNode(), Ups: make([]api.Up, 38)}, {Bottom: emptyNode(), Ups: make([]api.Up, 128)}, {Bottom: emptyNode(), Ups: make([]api.Up, 256)},
	}
	ups := []api.Up{{Side: 2}, {Side: 256}, {Path: "2"}, {Path: ones(38)}, {Path: "1 "}}
	for _, n := range far {
		ups = append(ups, api.Up{Side: n}, api.Up{Other: n})
	}
	for _, up := range ups {
		proofs = append(proofs, api.Proof{Bottom: emptyNode(), Ups: []api.Up{up}}, api.Proof{Bottom: emptyNode(), Ups: []api.Up{{}, {}, up}})
	}
	for _, p := range proofs {
		if b, e := EncodeProof(p); b != "" || e != api.ErrForm {
			t.Errorf("P4: EncodeProof(%v) = %x, %d", p, b, e)
		}
	}
}

func TestBytesOfNoProof(t *testing.T) {
	step := "00 00 00 00 00 00"
	for _, b := range []string{
		"", "00", "00 00", "01 02", "01 02 00 00", "02 02 00 00", "02 02", "01 03 00", "00 02 00",
		"81 00 02 00", "01 02 80 00", "01 02 81 00" + step, "01 02 80 80 80 80 00", "ff ff ff 7f 02 00", "ff ff ff ff 7f 02 00",
		"01 02 01", "01 02 02" + step, "01 02 01" + step + step, "01 02 26" + strings.Repeat(step, 38), "01 02 a6 00" + strings.Repeat(step, 38),
		"01 02 01 02 00 00 00 00 00", "01 02 01 ff 00 00 00 00 00",
		"01 02 01 00 01 c0 00 00 00 00", "01 02 01 00 81 00 80 00 00 00 00", "01 02 01 00 26 ff ff ff ff fc 00 00 00 00", "01 02 01 00 00 00 00 00",
		"05 00 02 81 01 78 00", "06 00 82 00 80 01 78 00",
	} {
		if p, e := DecodeProof(hx(b)); !noProof(p) || e != api.ErrBytes {
			t.Errorf("P4: DecodeProof(%s) = %v, %d", b, p, e)
		}
	}
}

func TestProofsHaveOneForm(t *testing.T) {
	for _, c := range proofCases() {
		spoilt(hx(c.b), func(b string) {
			p, e := DecodeProof(b)
			if e != api.OK {
				if !noProof(p) || e != api.ErrBytes {
					t.Errorf("P4: DecodeProof(%x) = %v, %d", b, p, e)
				}
				return
			}
			if again, e := EncodeProof(p); again != b || e != api.OK {
				t.Errorf("P4: DecodeProof(%x) = %v, which is written %x, %d", b, p, again, e)
			}
		})
	}
}

// TestProofLists: P2: a list that is handed in stays as it is, its spare room too; each answer has memory of its own.
func TestProofLists(t *testing.T) {
	room := []api.Up{{Path: "1"}, {Side: 1}, {Path: "spare"}}
	kept := slices.Clone(room)
	b, e := EncodeProof(api.Proof{Bottom: emptyNode(), Ups: room[:2]})
	if e != api.OK || !slices.Equal(room, kept) {
		t.Errorf("P2: EncodeProof: %d, and the list is %v", e, room)
	}
	room[0].Path = "0"
	p, _ := DecodeProof(b)
	q, _ := DecodeProof(b)
	clear(p.Ups[:cap(p.Ups)])
	_ = append(p.Ups, api.Up{Path: "more"})
	if !slices.Equal(q.Ups, kept[:2]) {
		t.Errorf("P2: DecodeProof: another answer is changed: %v", q.Ups)
	}
}
