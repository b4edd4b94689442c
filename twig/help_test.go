package twig

import (
	"encoding/hex"
	"math"
	"strings"

	"twig/api"
)

func hx(s string) string {
	b, err := hex.DecodeString(strings.ReplaceAll(s, " ", ""))
	if err != nil {
		panic(err)
	}
	return string(b)
}

// far: numbers that are out of every bound.
var far = []int{math.MinInt, math.MinInt + 1, -1 << 32, -1, 1 << 32, 1 << 62, math.MaxInt - 1, math.MaxInt}

func ones(n int) string { return strings.Repeat("1", n) }

func emptyNode() api.Node { return api.Node{Kind: api.Empty} }

// spoilt hands on every text that is near b: cut short, a byte more, a byte less, a byte that is another one.
func spoilt(b string, try func(string)) {
	for i := range len(b) {
		try(b[:i])
		try(b[:i] + b[i+1:])
	}
	for i := range len(b) + 1 {
		for c := range 256 {
			try(b[:i] + string([]byte{byte(c)}) + b[i:])
			if i < len(b) {
				try(b[:i] + string([]byte{byte(c)}) + b[i+1:])
			}
		}
	}
}
