package twig

import (
	"fmt"
	"reflect"
	"slices"
	"strings"
	"testing"

	"twig/api"
)

type manifestCase struct {
	m api.Manifest
	b string
}

func manifestCases() []manifestCase {
	return []manifestCase{
		{api.Manifest{Width: 8, Root: 255, Size: 128, Total: 300, Digests: []int{1, 2, 255}}, "08 00 00 00 ff 80 01 ac 02 00 00 00 01 00 00 00 02 00 00 00 ff"},
		{api.Manifest{Width: 1, Root: 1, Size: 8, Total: 1, Digests: []int{0}}, "01 00 00 00 01 08 01 00 00 00 00"},
		{api.Manifest{Width: 32, Root: 1<<32 - 1, Size: 1000, Total: 1000, Digests: []int{0x01020304}}, "20 ff ff ff ff e8 07 e8 07 01 02 03 04"},
		{api.Manifest{Width: 31, Root: 1<<31 - 1, Size: 127, Total: 128, Digests: []int{1<<31 - 1, 0}}, "1f 7f ff ff ff 7f 80 01 7f ff ff ff 00 00 00 00"},
		{api.Manifest{Width: 2, Size: 8, Total: 8, Digests: []int{3}}, "02 00 00 00 00 08 08 00 00 00 03"},
	}
}

func noManifest(m api.Manifest) bool { return reflect.DeepEqual(m, api.Manifest{}) }

func TestManifestBytes(t *testing.T) {
	for _, c := range manifestCases() {
		if b, e := EncodeManifest(c.m); b != hx(c.b) || e != api.OK {
			t.Errorf("P4: EncodeManifest(%v) = %x, %d, want %s", c.m, b, e, c.b)
		}
		if m, e := DecodeManifest(hx(c.b)); !reflect.DeepEqual(m, c.m) || e != api.OK {
			t.Errorf("P4: DecodeManifest(%s) = %v, %d, want %v", c.b, m, e, c.m)
		}
	}
}

// TestManifestSizes: the edges of Size and Total, with as many digests as there are chunks, and with one more or less.
func TestManifestSizes(t *testing.T) {
	for _, c := range []struct{ size, total, chunks int }{
		{8, 1, 1}, {8, 7, 1}, {8, 8, 1}, {8, 9, 2}, {8, 16, 2}, {8, 17, 3}, {8, 100000, 12500}, {8, 99999, 12500}, {8, 99992, 12499}, {9, 100000, 11112},
		{1000, 1, 1}, {1000, 1000, 1}, {1000, 1001, 2}, {1000, 100000, 100}, {1000, 99001, 100}, {1000, 99000, 99}, {127, 128, 2}, {128, 128, 1},
	} {
		m := api.Manifest{Width: 16, Root: 3, Size: c.size, Total: c.total, Digests: make([]int, c.chunks)}
		m.Digests[c.chunks-1] = 65535
		b, e := EncodeManifest(m)
		if e != api.OK {
			t.Errorf("P4: EncodeManifest of %v: %d", c, e)
		}
		if got, e := DecodeManifest(b); !reflect.DeepEqual(got, m) || e != api.OK {
			t.Errorf("P4: DecodeManifest of %v: %d", c, e)
		}
		for _, wrong := range []string{b[:len(b)-4], b[:len(b)-1], b + "\x00", b + "\x00\x00\x00\x00"} {
			if got, e := DecodeManifest(wrong); !noManifest(got) || e != api.ErrBytes {
				t.Errorf("P4: DecodeManifest of %v with %d bytes: %d", c, len(wrong), e)
			}
		}
		for _, n := range []int{c.chunks - 1, c.chunks + 1} {
			m.Digests = make([]int, n)
			if b, e := EncodeManifest(m); b != "" || e != api.ErrForm {
				t.Errorf("P4: EncodeManifest of %v with %d digests: %d", c, n, e)
			}
		}
	}
}

func TestManifestWidths(t *testing.T) {
	for width := 1; width <= 32; width++ {
		top := 1<<width - 1
		m := api.Manifest{Width: width, Root: top, Size: 8, Total: 9, Digests: []int{top, 0}}
		written := func(root, first, second int) string {
			return hx(fmt.Sprintf("%02x%08x0809%08x%08x", width, root, first, second))
		}
		b, e := EncodeManifest(m)
		if want := written(top, top, 0); b != want || e != api.OK {
			t.Errorf("P4: EncodeManifest(%v) = %x, %d, want %x", m, b, e, want)
		}
		if got, e := DecodeManifest(b); !reflect.DeepEqual(got, m) || e != api.OK {
			t.Errorf("P4: DecodeManifest(%x) = %v, %d", b, got, e)
		}
		for _, wrong := range []api.Manifest{
			{Width: width, Root: top + 1, Size: 8, Total: 9, Digests: []int{top, 0}},
			{Width: width, Root: top, Size: 8, Total: 9, Digests: []int{top + 1, 0}},
			{Width: width, Root: top, Size: 8, Total: 9, Digests: []int{0, top + 1}},
			{Width: width, Root: top, Size: 8, Total: 9, Digests: []int{0, -1}},
			{Width: width, Root: -1, Size: 8, Total: 9, Digests: []int{0, 0}},
		} {
			if b, e := EncodeManifest(wrong); b != "" || e != api.ErrForm {
				t.Errorf("P4: EncodeManifest(%v) = %x, %d", wrong, b, e)
			}
		}
		if width == 32 {
			continue // four bytes hold no more
		}
		for _, wrong := range []string{written(top+1, top, 0), written(top, top+1, 0), written(top, top, top+1)} {
			if m, e := DecodeManifest(wrong); !noManifest(m) || e != api.ErrBytes {
				t.Errorf("P4: DecodeManifest(%x) = %v, %d", wrong, m, e)
			}
		}
	}
}

func TestManifestsWithoutBytes(t *testing.T) {
	change := []func(m *api.Manifest, n int){
		func(m *api.Manifest, n int) { m.Width = n },
		func(m *api.Manifest, n int) { m.Root = n },
		func(m *api.Manifest, n int) { m.Size = n },
		func(m *api.Manifest, n int) { m.Total = n },
		func(m *api.Manifest, n int) { m.Digests[1] = n },
	}
	beside := [][]int{{0, 33, 7}, {256}, {0, 7, 1001}, {0, 100001, 256, 385}, {256}}
	for i, f := range change {
		for _, n := range append(beside[i], far...) {
			m := api.Manifest{Width: 8, Root: 255, Size: 128, Total: 300, Digests: []int{1, 2, 255}}
			f(&m, n)
			if b, e := EncodeManifest(m); b != "" || e != api.ErrForm {
				t.Errorf("P4: EncodeManifest(%v) = %x, %d", m, b, e)
			}
		}
	}
	for _, m := range []api.Manifest{{}, {Width: 8, Size: 8, Total: 1}, {Width: 8, Size: 7, Total: 7, Digests: []int{0}}, {Width: 8, Size: 1001, Total: 8, Digests: []int{0}}, {Width: 8, Size: 8, Total: 0}, {Width: 8, Size: 1000, Total: 100001, Digests: make([]int, 101)}} {
		if b, e := EncodeManifest(m); b != "" || e != api.ErrForm {
			t.Errorf("P4: EncodeManifest(%v) = %x, %d", m, b, e)
		}
	}
}

func TestBytesOfNoManifest(t *testing.T) {
	digests := func(n int) string { return strings.Repeat("00", 4*n) }
	for _, b := range []string{
		"", "08", "00 00 00 00 00 08 01" + digests(1), "21 00 00 00 00 08 01" + digests(1), "ff 00 00 00 00 08 01" + digests(1),
		"08 00 00 00 00 00 01" + digests(1), "08 00 00 00 00 07 01" + digests(1), "08 00 00 00 00 e9 07 01" + digests(1),
		"08 00 00 00 00 08 00", "08 00 00 00 00 08 00" + digests(1), "08 00 00 00 00 e8 07 a1 8d 06" + digests(101),
		"08 00 00 00 00 88 00 01" + digests(1), "08 00 00 00 00 08 81 00" + digests(1), "08 00 00 00 00 88 80 80 80 00 01" + digests(1), "08 00 00 00 00 08 ff ff ff ff 00", "08 00 00 00 00 ff ff ff 7f 01" + digests(1),
		"08 00 00 00 00 08 01" + digests(0), "08 00 00 00 00 08 01" + digests(2), "08 00 00 00 00 08 09" + digests(1), "08 00 00 00 00 08 01 00 00 00",
	} {
		if m, e := DecodeManifest(hx(b)); !noManifest(m) || e != api.ErrBytes {
			t.Errorf("P4: DecodeManifest(%.60s) = %v, %d", b, m, e)
		}
	}
}

func TestManifestsHaveOneForm(t *testing.T) {
	for _, c := range manifestCases() {
		spoilt(hx(c.b), func(b string) {
			m, e := DecodeManifest(b)
			if e != api.OK {
				if !noManifest(m) || e != api.ErrBytes {
					t.Errorf("P4: DecodeManifest(%x) = %v, %d", b, m, e)
				}
				return
			}
			if again, e := EncodeManifest(m); again != b || e != api.OK {
				t.Errorf("P4: DecodeManifest(%x) = %v, which is written %x, %d", b, m, again, e)
			}
		})
	}
}

// TestManifestLists: P2: a list that is handed in stays as it is, its spare room too; each answer has memory of its own.
func TestManifestLists(t *testing.T) {
	room := []int{1, 2, -9}
	b, e := EncodeManifest(api.Manifest{Width: 8, Size: 8, Total: 9, Digests: room[:2]})
	if e != api.OK || !slices.Equal(room, []int{1, 2, -9}) {
		t.Errorf("P2: EncodeManifest: %d, and the list is %v", e, room)
	}
	room[0] = 3
	m, _ := DecodeManifest(b)
	q, _ := DecodeManifest(b)
	clear(m.Digests[:cap(m.Digests)])
	_ = append(m.Digests, 7)
	if !slices.Equal(q.Digests, []int{1, 2}) {
		t.Errorf("P2: DecodeManifest: another answer is changed: %v", q.Digests)
	}
}
