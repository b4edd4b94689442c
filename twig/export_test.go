package twig

import (
	"maps"
	"runtime"
	"slices"
	"strings"
	"sync"
	"testing"

	"twig/api"
)

// TestExportExample: the bytes are those that the document's examples come to.
func TestExportExample(t *testing.T) {
	s := newStore(t, 32, nil)
	s.Commit()
	answers(t, "P6: Set", s.Set("A", "x"), api.OK)
	s.Commit()
	answers(t, "P6: Set", s.Set("B", "y"), api.OK)
	_, root, _ := s.Commit()
	four := func(n int) string { return string([]byte{byte(n >> 24), byte(n >> 16), byte(n >> 8), byte(n)}) }
	sum := func(b string) int { d, _ := Digest(32, b); return d }
	left, right := hx("05 00 02 80 01 78"), hx("05 00 02 00 01 79")
	top := hx("0b 01 07 a0") + four(sum(left[1:])) + four(sum(right[1:]))
	exports(t, s, 1, 8, hx("20")+four(sum("\x02"))+hx("08 02")+four(sum("\x01\x02")), []string{"\x01\x02"})
	leaf := hx("06 00 0a a0 80 01 78")
	exports(t, s, 2, 1000, hx("20")+four(sum(leaf[1:]))+hx("e8 07 07")+four(sum(leaf)), []string{leaf})
	stream := left + right + top
	exports(t, s, 3, 12, hx("20")+four(root)+hx("0c 18")+four(sum(left+right))+four(sum(top)), []string{left + right, top})
	exports(t, s, 3, 23, hx("20")+four(root)+hx("17 18")+four(sum(stream[:23]))+four(sum(stream[23:])), []string{stream[:23], stream[23:]})
}

// TestExport: P12, P15: trees of all shapes, in chunks of all sizes that matter: the least, the greatest, such as end with the stream, and such as do not.
func TestExport(t *testing.T) {
	for width := 1; width <= 32; width++ {
		for _, m := range proveModels() {
			s := newStore(t, width, m)
			m.commits(t, s, width, 1)
			total := len(m.tree(t, width).stream(t))
			for _, size := range []int{8, 9, 100, 999, 1000, total - 1, total, total + 1, total / 2, (total + 1) / 2, total / 3} {
				m.carries(t, s, width, 1, min(max(size, 8), 1000))
			}
			m.same(t, s, proveKeys()...)
			m.sameVersion(t, s, width, 1)
		}
	}
}

// TestExportOfVersions: what is not in a version yet, or not any more, makes no difference to its chunks.
func TestExportOfVersions(t *testing.T) {
	s, models := history(t, 32)
	answers(t, "P6: Set", s.Set("A", "now"), api.OK)
	answers(t, "P7: Prune", s.Prune(2), api.OK)
	delete(models, 2)
	for n, m := range models {
		for _, size := range []int{8, 20, 1000} {
			m.carries(t, s, 32, n, size)
		}
	}
	models[6]["A"] = "now"
	models[6].same(t, s, proveKeys()...)
	models[6].commits(t, s, 32, 7)
}

// TestNoExport: a version that is none is told ahead of a size that is none, and nothing changes.
func TestNoExport(t *testing.T) {
	m := model{"A": "x", "B": "y"}
	s := newStore(t, 32, m)
	m.commits(t, s, 32, 1)
	m.commits(t, s, 32, 2)
	answers(t, "P7: Prune", s.Prune(1), api.OK)
	noSizes := append([]int{0, 1, 7, 1001, 1002}, far...)
	for _, size := range append([]int{8, 1000}, noSizes...) {
		for _, n := range append([]int{0, 3}, far...) {
			noExport(t, s, n, size, api.ErrVersion)
			noExport(t, nil, n, size, api.ErrNil)
		}
		noExport(t, s, 1, size, api.ErrPruned)
		noExport(t, nil, 1, size, api.ErrNil)
	}
	for _, size := range noSizes {
		noExport(t, s, 2, size, api.ErrSize)
	}
	m.same(t, s, "C")
	m.sameVersion(t, s, 32, 2)
	m.commits(t, s, 32, 3)
}

// filled is keys with values of which the stream has just so many bytes.
func filled(t *testing.T, width, total int) model {
	t.Helper()
	m := model{}
	for i := range 4000 {
		m[string([]byte{byte(i >> 8), byte(i)})] = ""
	}
	left := total - len(m.tree(t, width).stream(t))
	for _, key := range slices.Sorted(maps.Keys(m)) {
		m[key] = strings.Repeat("v", min(left, 20))
		left -= len(m[key])
	}
	if got := len(m.tree(t, width).stream(t)); got != total {
		t.Fatalf("the stream has %d bytes", got)
	}
	return m
}

// TestMostBytes: P12: a stream may have just MaxTotal bytes.
func TestMostBytes(t *testing.T) {
	for _, width := range []int{1, 32} {
		for _, more := range []int{-1, 0, 1, 2, 5000} {
			m := filled(t, width, api.MaxTotal+more)
			s := newStore(t, width, m)
			s.Commit()
			for _, size := range []int{8, 999, 1000} {
				if more <= 0 {
					m.carries(t, s, width, 1, size)
				} else {
					noExport(t, s, 1, size, api.ErrSize)
				}
			}
			noExport(t, s, 1, 7, api.ErrSize)
			noExport(t, s, 2, 8, api.ErrVersion)
			m.sameVersion(t, s, width, 1)
		}
	}
}

// TestExportLists: P2: a list that came out is the caller's own.
func TestExportLists(t *testing.T) {
	m := model{"A": "x", "B": "y", "C": "z"}
	s := newStore(t, 32, m)
	s.Commit()
	_, first, _ := s.Export(1, 8)
	_, second, _ := s.Export(1, 8)
	kept := slices.Clone(second)
	clear(first[:cap(first)])
	_ = append(first[:0], "mine", "mine")
	if !slices.Equal(second, kept) {
		t.Errorf("P2: Export: another answer is changed: %q", second)
	}
	m.carries(t, s, 32, 1, 8)
}

// TestExportSchedules: many at once, on one processor and on several, answer what one alone does.
func TestExportSchedules(t *testing.T) {
	m := filled(t, 32, 90000)
	s := newStore(t, 32, m)
	s.Commit()
	manifest, list, _ := s.Export(1, 8)
	for _, processors := range []int{1, 2, 8} {
		old := runtime.GOMAXPROCS(processors)
		var same [8]bool
		var all sync.WaitGroup
		for i := range same {
			all.Go(func() {
				b, got, e := s.Export(1, 8)
				same[i] = b == manifest && slices.Equal(got, list) && e == api.OK
			})
		}
		all.Wait()
		runtime.GOMAXPROCS(old)
		if slices.Contains(same[:], false) {
			t.Errorf("P15: on %d processors: %v", processors, same)
		}
	}
}
