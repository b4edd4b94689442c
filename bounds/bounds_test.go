package bounds

import (
	"math"
	"strings"
	"testing"
)

// edges: the numbers at a bound, beside it, and far away.
func edges(low, high int) map[int]bool {
	return map[int]bool{low: true, high: true, low + (high-low)/2: true, low - 1: false, high + 1: false, math.MinInt: false, math.MaxInt: false}
}

func TestNumbers(t *testing.T) {
	for _, c := range []struct {
		name      string
		holds     func(int) bool
		low, high int
	}{
		{"Width", Width, 1, 32},
		{"Four", Four, 0, 4294967295},
		{"Bits", Bits, 0, 37},
		{"Key", Key, 1, 4},
		{"Length", Length, 0, 20},
		{"Steps", Steps, 0, 37},
		{"Side", Side, 0, 1},
		{"Size", Size, 8, 1000},
		{"Total", Total, 1, 100000},
		{"Digest of 1 bit", func(n int) bool { return Digest(1, n) }, 0, 1},
		{"Digest of 8 bits", func(n int) bool { return Digest(8, n) }, 0, 255},
		{"Digest of 32 bits", func(n int) bool { return Digest(32, n) }, 0, 4294967295},
	} {
		for n, want := range edges(c.low, c.high) {
			if got := c.holds(n); got != want {
				t.Errorf("%s(%d) = %v", c.name, n, got)
			}
		}
	}
}

func TestDigestOfNoWidth(t *testing.T) {
	for _, w := range []int{math.MinInt, -1, 0, 33, 64, math.MaxInt} {
		if Digest(w, 0) {
			t.Errorf("Digest(%d, 0) holds", w)
		}
	}
}

func TestPath(t *testing.T) {
	long := strings.Repeat("10", 18) + "1"
	for s, want := range map[string]bool{
		"": true, "0": true, "1": true, "0110": true, long: true,
		long + "0": false, "2": false, "/": false, "01 ": false, " 01": false, "0a1": false, "0\x001": false, "\x00": false, "١": false,
	} {
		if got := Path(s); got != want {
			t.Errorf("Path(%q) = %v", s, got)
		}
	}
}

func TestVersion(t *testing.T) {
	for _, last := range []int{1, 2, 7} {
		for n, want := range edges(1, last) {
			if got := Version(n, last); got != want {
				t.Errorf("Version(%d, %d) = %v", n, last, got)
			}
		}
	}
	for _, n := range []int{math.MinInt, -1, 0, 1, 2, math.MaxInt} {
		if Version(n, 0) {
			t.Errorf("Version(%d, 0) holds", n)
		}
	}
}

func TestIndex(t *testing.T) {
	for _, count := range []int{1, 2, 12500} {
		for n, want := range edges(0, count-1) {
			if got := Index(n, count); got != want {
				t.Errorf("Index(%d, %d) = %v", n, count, got)
			}
		}
	}
	for _, n := range []int{math.MinInt, -1, 0, 1, math.MaxInt} {
		if Index(n, 0) {
			t.Errorf("Index(%d, 0) holds", n)
		}
	}
}
