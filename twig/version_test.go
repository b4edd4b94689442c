package twig

import (
	"maps"
	"math/rand/v2"
	"slices"
	"testing"

	"twig/api"
)

// history is a store with some versions, and the models of them.
func history(t *testing.T, width int) (*Store, map[int]model) {
	t.Helper()
	s := newStore(t, width, nil)
	now, models := model{}, map[int]model{}
	for i, key := range []string{"", "A", "B", "AA", "\xff", "A"} {
		if key != "" {
			now[key] = string([]byte{'v', '0' + byte(i)})
			answers(t, "P6: Set", s.Set(key, now[key]), api.OK)
		}
		now.commits(t, s, width, i+1)
		models[i+1] = maps.Clone(now)
	}
	return s, models
}

func allVersions(t *testing.T, s *Store, width int, models map[int]model) {
	t.Helper()
	for n, m := range models {
		m.sameVersion(t, s, width, n)
	}
}

// P7, P8
func TestVersionsStay(t *testing.T) {
	for _, width := range []int{1, 2, 31, 32} {
		s, models := history(t, width)
		allVersions(t, s, width, models)
		for n := range 6 {
			answers(t, "P7: Load", s.Load(n+1), api.OK)
			allVersions(t, s, width, models)
		}
	}
}

func noVersion(t *testing.T, s *Store, n int, want api.Errno) {
	t.Helper()
	answers(t, "P7: Load", s.Load(n), want)
	answers(t, "P7: Prune", s.Prune(n), want)
	if root, e := s.Root(n); root != 0 || e != want {
		t.Errorf("P8: Root(%d) = %d, %d, want %d", n, root, e, want)
	}
	if list, e := s.Walk(n); len(list) != 0 || e != want {
		t.Errorf("P8: Walk(%d) = %v, %d, want %d", n, list, e, want)
	}
}

// TestNoVersion: the numbers beside those that there are, and nothing changes by asking for them.
func TestNoVersion(t *testing.T) {
	s := newStore(t, 32, model{"A": "x"})
	for _, n := range append([]int{0, 1, 2}, far...) {
		noVersion(t, s, n, api.ErrVersion)
	}
	model{"A": "x"}.same(t, s, "B")
	model{"A": "x"}.commits(t, s, 32, 1)
	model{"A": "x"}.sameVersion(t, s, 32, 1)
	answers(t, "P6: Set", s.Set("B", "y"), api.OK)
	for _, n := range append([]int{0, 2, 3}, far...) {
		noVersion(t, s, n, api.ErrVersion)
	}
	model{"A": "x", "B": "y"}.same(t, s, "C")
	model{"A": "x", "B": "y"}.commits(t, s, 32, 2)
}

// TestLoad: what was changed since the last version is gone, and the next Commit counts on.
func TestLoad(t *testing.T) {
	s, models := history(t, 32)
	answers(t, "P6: Set", s.Set("C", "lost"), api.OK)
	answers(t, "P6: Set", s.Set("A", "lost"), api.OK)
	answers(t, "P6: Delete", s.Delete("B"), api.OK)
	answers(t, "P7: Load of the newest", s.Load(6), api.OK)
	models[6].same(t, s, "C", "AAA")
	answers(t, "P7: Load of an old one", s.Load(3), api.OK)
	models[3].same(t, s, "AA", "\xff", "C")
	models[3].commits(t, s, 32, 7)
	answers(t, "P6: Delete", s.Delete("A"), api.OK)
	answers(t, "P6: Set", s.Set("D", "d"), api.OK)
	m := model{"B": models[3]["B"], "D": "d"}
	m.same(t, s, "A", "AA", "C")
	m.commits(t, s, 32, 8)
	models[7], models[8] = models[3], m
	answers(t, "P7: Load of one without keys", s.Load(1), api.OK)
	model{}.same(t, s, "A", "B", "D")
	answers(t, "P6: Delete of what was loaded away", s.Delete("D"), api.ErrNone)
	model{}.commits(t, s, 32, 9)
	models[9] = model{}
	allVersions(t, s, 32, models)
}

// TestPrune: the first, the newest, the one behind it and the one that was loaded; each of them twice.
func TestPrune(t *testing.T) {
	s, models := history(t, 32)
	answers(t, "P7: Load", s.Load(4), api.OK)
	answers(t, "P6: Set", s.Set("C", "c"), api.OK)
	now := maps.Clone(models[4])
	now["C"] = "c"
	for _, n := range []int{1, 6, 5, 4} {
		answers(t, "P7: Prune", s.Prune(n), api.OK)
		delete(models, n)
		noVersion(t, s, n, api.ErrPruned)
		noVersion(t, s, n, api.ErrPruned)
		now.same(t, s, "D", "\xff")
		allVersions(t, s, 32, models)
	}
	noVersion(t, s, 7, api.ErrVersion)
	noVersion(t, s, 0, api.ErrVersion)
	now.commits(t, s, 32, 7)
	answers(t, "P7: Prune of the newest", s.Prune(7), api.OK)
	now.same(t, s, "D", "\xff")
	now.commits(t, s, 32, 8)
	noVersion(t, s, 7, api.ErrPruned)
	noVersion(t, s, 9, api.ErrVersion)
	models[8] = now
	allVersions(t, s, 32, models)
}

func TestPruneAll(t *testing.T) {
	s, models := history(t, 32)
	for n := range models {
		answers(t, "P7: Prune", s.Prune(n), api.OK)
	}
	for n := range models {
		noVersion(t, s, n, api.ErrPruned)
	}
	models[6].same(t, s, "C")
	models[6].commits(t, s, 32, 7)
	models[6].sameVersion(t, s, 32, 7)
}

// TestWalkLists: P2: a list that came out is the caller's own.
func TestWalkLists(t *testing.T) {
	s, models := history(t, 32)
	first, _ := s.Walk(6)
	second, _ := s.Walk(6)
	clear(first[:cap(first)])
	_ = append(first[:0], api.Pair{Key: "mine"}, api.Pair{Key: "mine"})
	if !slices.Equal(second, models[6].pairs()) {
		t.Errorf("P2: Walk: another answer is changed: %q", second)
	}
	models[6].sameVersion(t, s, 32, 6)
	models[6].same(t, s, "mine")
}

// course is a store that is led by chance (of a fixed seed), and what it ought to have.
type course struct {
	s      *Store
	width  int
	r      *rand.Rand
	now    model
	models map[int]model
	newest int
}

func (c *course) text(signs string, low, high int) string {
	b := make([]byte, low+c.r.IntN(high-low+1))
	for i := range b {
		b[i] = signs[c.r.IntN(len(signs))]
	}
	return string(b)
}

func (c *course) step(t *testing.T) {
	t.Helper()
	key := c.text("\x00A\xff", 1, 4)
	switch c.r.IntN(12) {
	case 0:
		c.newest++
		c.now.commits(t, c.s, c.width, c.newest)
		c.models[c.newest] = maps.Clone(c.now)
	case 1, 2:
		c.version(t, c.r.IntN(c.newest+2))
	case 3, 4, 5, 6:
		_, there := c.now[key]
		answers(t, "P6: Delete", c.s.Delete(key), map[bool]api.Errno{true: api.OK, false: api.ErrNone}[there])
		delete(c.now, key)
	default:
		c.now[key] = c.text("xyz", 0, 20)
		answers(t, "P6: Set", c.s.Set(key, c.now[key]), api.OK)
	}
	c.now.same(t, c.s, key, key[:1], c.text("\x00A\xff", 1, 4))
}

// version loads one, or prunes it.
func (c *course) version(t *testing.T, n int) {
	t.Helper()
	m, kept := c.models[n]
	want := api.OK
	if n == 0 || n > c.newest {
		want = api.ErrVersion
	} else if !kept {
		want = api.ErrPruned
	}
	if c.r.IntN(2) == 0 {
		answers(t, "P7: Prune", c.s.Prune(n), want)
		delete(c.models, n)
		return
	}
	answers(t, "P7: Load", c.s.Load(n), want)
	if kept {
		c.now = maps.Clone(m)
	}
}

func TestLongCourses(t *testing.T) {
	for _, width := range []int{1, 5, 32} {
		c := &course{newStore(t, width, nil), width, rand.New(rand.NewPCG(uint64(width), 7)), model{}, map[int]model{}, 0}
		for i := range 3000 {
			c.step(t)
			if i%100 == 0 {
				allVersions(t, c.s, width, c.models)
			}
			if t.Failed() {
				t.Fatalf("width %d, step %d", width, i)
			}
		}
		allVersions(t, c.s, width, c.models)
	}
}
