package cursor

import "strings"

const (
	alphabet   = "ABCDEFGHIJKLMNOPQRSTUVWXYZabcdefghijklmnopqrstuvwxyz0123456789-_"
	letterBits = 6
	byteBits   = 8
)

// letters: bytes in base 64, six bits a letter; those of the last one that stand beside the bytes are 0.
func letters(p []byte) string {
	var s strings.Builder
	var bits uint
	many := 0
	for _, b := range p {
		// Bits that are written are pushed out at the top in the end: only the lowest ones, so many, are looked at.
		bits, many = bits<<byteBits|uint(b), many+byteBits
		for many >= letterBits {
			many -= letterBits
			s.WriteByte(letter(bits >> many))
		}
	}
	if many > 0 {
		s.WriteByte(letter(bits << (letterBits - many)))
	}
	return s.String()
}

// letter: the one for the lowest six bits.
func letter(bits uint) byte {
	return alphabet[bits%uint(len(alphabet))]
}

// bytesOf: the bytes of which letters makes s, and whether there are any such.
func bytesOf(s string) ([]byte, bool) {
	var p []byte
	var bits uint
	many := 0
	for i := range len(s) {
		v := strings.IndexByte(alphabet, s[i])
		if v < 0 {
			return nil, false
		}
		bits, many = bits<<letterBits|uint(v), many+letterBits
		if many >= byteBits {
			many -= byteBits
			p = append(p, byte(bits>>many))
		}
	}
	// Six bits that are left are a letter which no byte needs.
	if many == letterBits || bits&(1<<many-1) != 0 {
		return nil, false
	}
	return p, true
}
