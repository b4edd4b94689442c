package twig

import (
	"runtime"
	"slices"
	"strings"
	"sync"
	"testing"

	"twig/api"
)

// P5
func TestNew(t *testing.T) {
	for width := 1; width <= 32; width++ {
		s := newStore(t, width, nil)
		model{}.same(t, s, "A", "\x00", "\xff\xff\xff\xff")
		answers(t, "P7: Load of no version", s.Load(1), api.ErrVersion)
		want, _ := Digest(width, "\x02")
		if n, root, e := s.Commit(); n != 1 || root != want || e != api.OK {
			t.Errorf("P5: Commit of a store without keys of width %d: %d, %d, %d, want 1, %d", width, n, root, e, want)
		}
	}
	for _, width := range append([]int{0, 33, 34, 64}, far...) {
		if s, e := New(width); s != nil || e != api.ErrWidth {
			t.Errorf("P5: New(%d): %d", width, e)
		}
	}
}

// TestExamples: the roots are those of bytes that the document writes out.
func TestExamples(t *testing.T) {
	s := newStore(t, 32, model{"A": "x"})
	if n, root, e := s.Commit(); n != 1 || root != 1038945956 || e != api.OK {
		t.Errorf("P7: Commit = %d, %d, %d", n, root, e)
	}
	answers(t, "P6: Set", s.Set("B", "y"), api.OK)
	left, _ := Digest(32, hx("00 02 80 01 78"))
	right, _ := Digest(32, hx("00 02 00 01 79"))
	top, _ := EncodeNode(api.Node{Kind: api.Branch, Path: "1010000", Left: left, Right: right})
	want, _ := Digest(32, top)
	if n, root, e := s.Commit(); n != 2 || root != want || e != api.OK {
		t.Errorf("P7: Commit = %d, %d, %d, want 2, %d", n, root, e, want)
	}
}

// TestRootsOfWidths: of no key, of one, of many; with keys of which one begins with another, and values of 0 and 20 bytes.
func TestRootsOfWidths(t *testing.T) {
	long := strings.Repeat("v", 20)
	for width := 1; width <= 32; width++ {
		for _, m := range []model{
			{},
			{"A": ""},
			{"\xff\xff\xff\xff": long},
			{"A": "x", "B": "y"},
			{"A": "x", "AA": "x", "AAA": "x", "AAAA": "x"},
			{"\x00": "", "\x00\x00": long, "\xff": "1", "\xff\xff": "2", "A": "3", "A\x00": "4", "A\xff": "5"},
		} {
			s := newStore(t, width, m)
			m.commits(t, s, width, 1)
			m.sameVersion(t, s, width, 1)
			m.same(t, s, "B", "AB", "AAAB", "\x00\x00\x00", "\xfe")
		}
	}
}

// P6
func TestSet(t *testing.T) {
	s := newStore(t, 32, nil)
	m := model{}
	for _, key := range []string{"A", "AA", "AAA", "AAAA", "\x00", "\x00\x00\x00\x00", "\xff\xff\xff\xff"} {
		for _, value := range []string{"x", "", strings.Repeat("\x00", 20), strings.Repeat("v", 19)} {
			answers(t, "P6: Set", s.Set(key, value), api.OK)
			m[key] = value
			m.same(t, s, "B", "A\x00", "\x00\x00", "\xff")
		}
	}
	m.commits(t, s, 32, 1)
	answers(t, "P6: Set", s.Set("AA", "another"), api.OK)
	m["AA"] = "another"
	m.same(t, s, "B", "AB")
	m.commits(t, s, 32, 2)
	answers(t, "P6: Set of what it has", s.Set("AA", "another"), api.OK)
	m.commits(t, s, 32, 3)
}

var (
	noKeys   = []string{"", "fives", "\x00\x00\x00\x00\x00", strings.Repeat("k", 300), strings.Repeat("k", 1<<20)}
	noValues = []string{strings.Repeat("v", 21), strings.Repeat("\x00", 22), strings.Repeat("v", 256+3), strings.Repeat("v", 1<<20)}
)

// TestWrongKeysAndValues: a wrong key is told ahead of a wrong value, and nothing changes.
func TestWrongKeysAndValues(t *testing.T) {
	m := model{"A": "x", "five": "y", "k": ""}
	s := newStore(t, 32, m)
	for range 2 {
		for _, key := range noKeys {
			for _, value := range append([]string{"", "v"}, noValues...) {
				answers(t, "P6: Set of no key", s.Set(key, value), api.ErrKey)
			}
			answers(t, "P6: Delete of no key", s.Delete(key), api.ErrKey)
			if value, e := s.Get(key); value != "" || e != api.ErrKey {
				t.Errorf("P6: Get of no key: %q, %d", value, e)
			}
		}
		for _, value := range noValues {
			answers(t, "P6: Set of no value", s.Set("A", value), api.ErrValue)
			answers(t, "P6: Set of no value", s.Set("B", value), api.ErrValue)
		}
		answers(t, "P6: Delete of a key without a value", s.Delete("B"), api.ErrNone)
		m.same(t, s, "B", "AA", "fiv", "kk")
		s.Commit()
	}
	m.sameVersion(t, s, 32, 1)
	m.sameVersion(t, s, 32, 2)
}

// TestDelete: of keys that are in a version, that are new, that were deleted, and that came back.
func TestDelete(t *testing.T) {
	m := model{"A": "x", "AA": "y", "B": "z"}
	s := newStore(t, 32, m)
	gone := func(key string) {
		t.Helper()
		answers(t, "P6: Delete", s.Delete(key), api.OK)
		answers(t, "P6: Delete again", s.Delete(key), api.ErrNone)
		delete(m, key)
		m.same(t, s, "A", "AA", "AAA", "B", "C")
	}
	gone("AA")
	m.commits(t, s, 32, 1)
	gone("A")
	answers(t, "P6: Set", s.Set("A", "back"), api.OK)
	m["A"] = "back"
	m.same(t, s, "AA")
	m.commits(t, s, 32, 2)
	answers(t, "P6: Set", s.Set("C", "new"), api.OK)
	gone("C")
	m.commits(t, s, 32, 3)
	gone("A")
	answers(t, "P6: Set", s.Set("A", "again"), api.OK)
	gone("A")
	gone("B")
	m.commits(t, s, 32, 4)
	answers(t, "P6: Delete in an empty store", s.Delete("B"), api.ErrNone)
	model{"A": "x", "B": "z"}.sameVersion(t, s, 32, 1)
}

// TestSameRoot: P15: by whatever way the same keys and values came.
func TestSameRoot(t *testing.T) {
	list := []string{"A", "AA", "B", "AAAA", "\x00", "\xff\xff"}
	m := model{}
	for _, key := range list {
		m[key] = "v" + key
	}
	for turn := range len(list) {
		for _, back := range []bool{false, true} {
			order := append(slices.Clone(list[turn:]), list[:turn]...)
			if back {
				slices.Reverse(order)
			}
			s := newStore(t, 32, model{"C": "c", "AAA": "aaa", order[2]: "old"})
			version := 1
			for i, key := range order {
				answers(t, "P6: Set", s.Set(key, "v"+key), api.OK)
				if i == 1 || i == 4 {
					answers(t, "P6: Delete", s.Delete([]string{"", "C", "", "", "AAA"}[i]), api.OK)
				}
				if i%2 == turn%2 {
					s.Commit()
					version++
				}
			}
			m.commits(t, s, 32, version)
		}
	}
}

// P1: a store that is nil, ahead of all else that is wrong.
func TestNilStore(t *testing.T) {
	var s *Store
	for _, n := range append([]int{0, 1}, far...) {
		answers(t, "P1: Load", s.Load(n), api.ErrNil)
		answers(t, "P1: Prune", s.Prune(n), api.ErrNil)
		if root, e := s.Root(n); root != 0 || e != api.ErrNil {
			t.Errorf("P1: Root(%d) = %d, %d", n, root, e)
		}
		if list, e := s.Walk(n); len(list) != 0 || e != api.ErrNil {
			t.Errorf("P1: Walk(%d) = %v, %d", n, list, e)
		}
	}
	for _, key := range append([]string{"A"}, noKeys...) {
		for _, value := range append([]string{"x"}, noValues...) {
			answers(t, "P1: Set", s.Set(key, value), api.ErrNil)
		}
		answers(t, "P1: Delete", s.Delete(key), api.ErrNil)
		if value, e := s.Get(key); value != "" || e != api.ErrNil {
			t.Errorf("P1: Get(%q) = %q, %d", key, value, e)
		}
	}
	if n, root, e := s.Commit(); n != 0 || root != 0 || e != api.ErrNil {
		t.Errorf("P1: Commit = %d, %d, %d", n, root, e)
	}
}

// TestStoresApart: P2: what is done to one store is not done to another one of the same keys.
func TestStoresApart(t *testing.T) {
	m := model{"A": "x", "B": "y"}
	s, q := newStore(t, 32, m), newStore(t, 32, m)
	m.commits(t, s, 32, 1)
	m.commits(t, q, 32, 1)
	answers(t, "P6: Set", s.Set("A", "z"), api.OK)
	answers(t, "P6: Delete", s.Delete("B"), api.OK)
	model{"A": "z"}.commits(t, s, 32, 2)
	answers(t, "P7: Prune", s.Prune(1), api.OK)
	m.same(t, q, "C")
	m.sameVersion(t, q, 32, 1)
	m.commits(t, q, 32, 2)
}

// TestSchedules: many stores at once, on one processor and on several, have the roots that one alone has.
func TestSchedules(t *testing.T) {
	m := model{}
	for i := range 500 {
		m[string([]byte{byte(i * 37), byte(i), byte(i >> 8)})] = strings.Repeat("v", i%21)
	}
	want := m.root(t, 32)
	for _, processors := range []int{1, 2, 8} {
		old := runtime.GOMAXPROCS(processors)
		var roots [8]int
		var all sync.WaitGroup
		for i := range roots {
			all.Go(func() { _, roots[i], _ = newStore(t, 32, m).Commit() })
		}
		all.Wait()
		runtime.GOMAXPROCS(old)
		for _, root := range roots {
			if root != want {
				t.Errorf("P15: on %d processors the roots are %v, want %d", processors, roots, want)
				break
			}
		}
	}
}
