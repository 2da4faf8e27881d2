package ship

import (
	"umlaut/escape"
	"umlaut/hex"
	"umlaut/utf"
)

// sign is ahead of the two hex digits of a byte.
const sign = '%'

// A byte in hex digits stands as a sign and two of them; each tells of so many bits.
const (
	percentLength = 3
	digitBits     = 4
)

// escaped is the bytes of what stands for scalars.
func escaped(l []rune) []byte {
	var out []byte
	for _, x := range l {
		for _, y := range escape.Esc(x) {
			out = append(out, utf.Encode(y)...)
		}
	}
	return out
}

// percented is what stands for bytes.
func percented(b []byte) []byte {
	var out []byte
	for _, x := range b {
		out = append(out, escape.Percent(x)...)
	}
	return out
}

// turnedBack is the bytes of which a sign and two hex digits, or they themselves, stand there.
func turnedBack(b []byte) []byte {
	var out []byte
	for len(b) > 0 {
		x, n := first(b)
		out = append(out, x)
		b = b[n:]
	}
	return out
}

// first is the byte that is first when bytes are turned back, and how many of these it takes.
func first(b []byte) (byte, int) {
	if len(b) < percentLength || b[0] != sign {
		return b[0], 1
	}
	upper, ok := hex.Value(rune(b[1]))
	lower, alsoOK := hex.Value(rune(b[2]))
	if !ok || !alsoOK {
		return b[0], 1
	}
	return byte(upper<<digitBits | lower), percentLength
}
