package wire

// numberBits is how many bits a number has at most: seven in each of four bytes.
const numberBits = 28

func addNumber(out []byte, n int) []byte {
	for ; n > 0x7f; n >>= 7 {
		out = append(out, byte(n&0x7f|0x80))
	}
	return append(out, byte(n))
}

func addFour(out []byte, n int) []byte {
	return append(out, byte(n>>24), byte(n>>16), byte(n>>8), byte(n))
}

func addPath(out []byte, path string) []byte {
	out = addNumber(out, len(path))
	packed := make([]byte, (len(path)+7)/8)
	for i := range len(path) {
		packed[i/8] |= (path[i] - '0') << (7 - i%8)
	}
	return append(out, packed...)
}

func addText(out []byte, text string) []byte {
	return append(addNumber(out, len(text)), text...)
}
