package digest

import "testing"

// TestKnown: numbers that were worked out by hand from the document's words.
func TestKnown(t *testing.T) {
	for _, c := range []struct {
		b    string
		want int
	}{
		{"", 2166202364},
		{"A", 3289022171},
		{"\x00", 84694791},
		{"\xff", 2047571545},
		{"\x00\x00", 292992288},
		{"abc", 440917380},
		{"\x02", 118255197},
		{"\x00\x0a\xa0\x80\x01\x78", 1038945956},
	} {
		for width := 1; width <= 32; width++ {
			if got, want := Of(width, c.b), c.want%(1<<width); got != want {
				t.Errorf("Of(%d, %q) = %d, want %d", width, c.b, got, want)
			}
		}
	}
}
