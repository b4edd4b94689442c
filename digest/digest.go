// Package digest works out digests of bytes.
package digest

const (
	start = 2166136261
	prime = 16777619
)

// Of leaves it to the caller that width is one, as every store's is checked once.
func Of(width int, b string) int {
	sum := uint32(start)
	for i := range len(b) {
		sum = (sum ^ uint32(b[i])) * prime
	}
	return int(sum^sum>>15) & (1<<width - 1)
}
