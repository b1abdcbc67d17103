package http

import (
	"strings"

	"fascine/api"
)

const (
	blanks     = " \t"
	mostDigits = 9 // of a body's length
)

// headLines: the lines ahead of a body, without their ends, and the place behind the empty one; none, if they aren't there whole, or are refused with a state.
func headLines(p string) ([]string, int, int) {
	var lines []string
	at := 0
	for {
		if len(lines) > api.MaxLines {
			return nil, 0, longHead
		}
		n := strings.IndexByte(p[at:], '\n')
		switch {
		case n < 0 && len(p) > api.MaxHead:
			return nil, 0, longHead
		case n < 0:
			return nil, 0, 0
		case at+n >= api.MaxHead:
			return nil, 0, longHead
		}
		line, ok := strings.CutSuffix(p[at:at+n], "\r")
		if !ok {
			return nil, 0, badRequest
		}
		at += n + 1
		if line == "" && len(lines) > 0 {
			return lines, at, 0
		}
		lines = append(lines, line)
	}
}

// head is what a request's lines tell.
type head struct {
	api.Request
	hosts   int // how many lines tell it
	lengths int
	length  int
}

// read: reads some lines, of which there is at least one; a state above 0: they are refused with that.
func (h *head) read(lines []string) int {
	if !h.first(lines[0]) {
		return badRequest
	}
	for _, line := range lines[1:] {
		if !h.line(line) {
			return badRequest
		}
	}
	switch {
	case h.hosts != 1 || h.lengths > 1:
		return badRequest
	case h.length > api.MaxBody:
		return longBody
	}
	return 0
}

func (h *head) first(line string) bool {
	parts := strings.Split(line, blank)
	if len(parts) != 3 || !isName(parts[0]) || !isPath(parts[1]) || parts[2] != version {
		return false
	}
	h.Method, h.Path = strings.Clone(parts[0]), strings.Clone(parts[1])
	return true
}

func (h *head) line(line string) bool {
	name, value, ok := strings.Cut(line, ":")
	value = strings.Trim(value, blanks)
	if !ok || !isName(name) || !isValue(value) {
		return false
	}
	switch small(name) {
	case "host":
		h.hosts++
	case "content-length":
		h.lengths++
		h.length, ok = number(value)
		return ok && len(value) <= mostDigits
	case "transfer-encoding":
		return false
	case "connection":
		h.Close = h.Close || small(value) == "close"
	}
	return true
}

// small: great letters as small ones, and all else as it is: beyond ASCII there are signs that strings.ToLower and strings.EqualFold take for letters.
func small(s string) string {
	return strings.Map(func(c rune) rune {
		if 'A' <= c && c <= 'Z' {
			return c - 'A' + 'a'
		}
		return c
	}, s)
}

func isName(s string) bool {
	for _, c := range s {
		switch {
		case 'a' <= c && c <= 'z', 'A' <= c && c <= 'Z', '0' <= c && c <= '9', c == '-', c == '_':
		default:
			return false
		}
	}
	return s != ""
}

func isPath(s string) bool {
	for _, c := range s {
		if c <= ' ' || c > '~' {
			return false
		}
	}
	return strings.HasPrefix(s, "/")
}

func isValue(s string) bool {
	for _, c := range s {
		if c < ' ' && c != '\t' || c == 0x7f {
			return false
		}
	}
	return true
}
