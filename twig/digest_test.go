package twig

import (
	"testing"

	"twig/api"
)

// P3: the digests are worked out by hand from the document's words.
func TestDigest(t *testing.T) {
	for _, c := range []struct {
		width int
		b     string
		want  int
	}{
		{32, "", 2166202364}, {32, "A", 3289022171}, {32, "abc", 440917380}, {32, "\x00", 84694791}, {32, "\xff", 2047571545},
		{1, "", 0}, {1, "A", 1}, {1, "\x00", 1}, {1, "abc", 0},
		{2, "A", 3}, {8, "A", 219}, {16, "A", 32475}, {31, "A", 1141538523},
		{32, hx("00 0a a0 80 01 78"), 1038945956},
	} {
		if got, e := Digest(c.width, c.b); got != c.want || e != api.OK {
			t.Errorf("P3: Digest(%d, %q) = %d, %d, want %d", c.width, c.b, got, e, c.want)
		}
	}
}

func TestDigestOfNoWidth(t *testing.T) {
	for _, w := range append([]int{0, 33, 64}, far...) {
		for _, b := range []string{"", "A"} {
			if got, e := Digest(w, b); got != 0 || e != api.ErrWidth {
				t.Errorf("P3: Digest(%d, %q) = %d, %d", w, b, got, e)
			}
		}
	}
}
