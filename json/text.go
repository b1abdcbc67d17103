package json

import (
	"strings"
	"unicode/utf8"

	"fascine/api"
)

// The characters of which a text's escapes need two: each has a first half and a second half.
const (
	escapeSign       = `\u`
	hexLength        = 4
	firstHalf   rune = 0xd800
	secondHalf  rune = 0xdc00
	behindHalf  rune = 0xe000
	halfBits         = 10
	firstOfBoth rune = 0x10000
)

func isFirstHalf(c rune) bool {
	return firstHalf <= c && c < secondHalf
}

func isSecondHalf(c rune) bool {
	return secondHalf <= c && c < behindHalf
}

// quoted: the text whose " stands next.
func (r *reader) quoted() string {
	var b strings.Builder
	r.at++
	for !r.stands(`"`) {
		b.WriteRune(r.character())
	}
	r.at++
	return b.String()
}

// character: the character of a text that stands next, itself or as an escape.
func (r *reader) character() rune {
	c, n := utf8.DecodeRuneInString(r.text[r.at:])
	// Fewer than two bytes: that is how the end, and a byte that is no character, differ from the character of that number.
	if c < ' ' || c == utf8.RuneError && n < 2 {
		r.giveUp(r.at, api.ErrText)
	}
	r.at += n
	if c == '\\' {
		return r.escape()
	}
	return c
}

// escape: the character that stands behind a backslash.
func (r *reader) escape() rune {
	if r.at == len(r.text) {
		r.giveUp(r.at, api.ErrText)
	}
	c := rune(r.text[r.at])
	switch c {
	case '"', '\\', '/':
	case 'b':
		c = '\b'
	case 'f':
		c = '\f'
	case 'n':
		c = '\n'
	case 'r':
		c = '\r'
	case 't':
		c = '\t'
	case 'u':
		r.at++
		return r.numbered()
	default:
		r.giveUp(r.at, api.ErrText)
	}
	r.at++
	return c
}

// numbered: the character whose number stands next, or the numbers of its halves.
func (r *reader) numbered() rune {
	c := r.hex()
	switch {
	case isSecondHalf(c):
		r.giveUp(r.at, api.ErrText)
	case isFirstHalf(c):
		return firstOfBoth + (c-firstHalf)<<halfBits + r.otherHalf()
	}
	return c
}

// otherHalf: what the second half that must stand next adds to its first.
func (r *reader) otherHalf() rune {
	if !r.stands(escapeSign) {
		r.giveUp(r.at, api.ErrText)
	}
	r.at += len(escapeSign)
	c := r.hex()
	if !isSecondHalf(c) {
		r.giveUp(r.at, api.ErrText)
	}
	return c - secondHalf
}

// hex: the number of four digits of base 16 that stands next.
func (r *reader) hex() rune {
	if len(r.text)-r.at < hexLength {
		r.giveUp(r.at, api.ErrText)
	}
	var n rune
	for range hexLength {
		digit, ok := hexDigit(r.text[r.at])
		if !ok {
			r.giveUp(r.at, api.ErrText)
		}
		n = n<<4 | digit
		r.at++
	}
	return n
}

func hexDigit(c byte) (rune, bool) {
	switch {
	case isDigit(c):
		return rune(c - '0'), true
	case 'a' <= c && c <= 'f':
		return rune(c-'a') + 10, true
	case 'A' <= c && c <= 'F':
		return rune(c-'A') + 10, true
	}
	return 0, false
}
