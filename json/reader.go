package json

import (
	"slices"
	"strconv"
	"strings"

	"fascine/api"
)

// fault is what a reader throws where it can't go on.
type fault struct {
	at    int
	errno api.Errno
}

// reader reads a text from the left.
type reader struct {
	text   string
	at     int // the place that is read next
	open   int // how many arrays and objects are open
	values int // how many values have begun
}

func (r *reader) giveUp(at int, e api.Errno) {
	panic(fault{at: at, errno: e})
}

func (r *reader) stands(sign string) bool {
	return strings.HasPrefix(r.text[r.at:], sign)
}

// next: the byte that stands next, up to which the blanks are passed; 0 at the end, as the byte 0 can't stand between tokens either.
func (r *reader) next() byte {
	for r.at < len(r.text) {
		switch c := r.text[r.at]; c {
		case ' ', '\t', '\n', '\r':
			r.at++
		default:
			return c
		}
	}
	return 0
}

// take: passes a sign that must stand next.
func (r *reader) take(sign byte) {
	if r.next() != sign {
		r.giveUp(r.at, api.ErrText)
	}
	r.at++
}

func (r *reader) whole() api.Value {
	v := r.value()
	r.next()
	if r.at < len(r.text) {
		r.giveUp(r.at, api.ErrText)
	}
	return v
}

func (r *reader) value() api.Value {
	c := r.next()
	if r.values == api.MaxItems {
		r.giveUp(r.at, api.ErrLong)
	}
	r.values++
	switch {
	case c == 'n':
		return r.word(nullWord, api.JNull)
	case c == 'f':
		return r.word(falseWord, api.JFalse)
	case c == 't':
		return r.word(trueWord, api.JTrue)
	case c == '-' || isDigit(c):
		return api.Value{Kind: api.JNumber, N: r.number()}
	case c == '"':
		return api.Value{Kind: api.JString, Text: r.quoted()}
	case c == '[':
		return r.array()
	case c == '{':
		return r.object()
	}
	r.giveUp(r.at, api.ErrText)
	return api.Value{}
}

func (r *reader) word(word string, kind byte) api.Value {
	if !r.stands(word) {
		r.giveUp(r.at, api.ErrText)
	}
	r.at += len(word)
	return api.Value{Kind: kind}
}

func isDigit(c byte) bool {
	return '0' <= c && c <= '9'
}

// numberEnd: the places behind the sign and behind the digits of the number that stands next.
func (r *reader) numberEnd() (int, int) {
	first := r.at
	if r.stands("-") {
		first++
	}
	end := first
	for end < len(r.text) && isDigit(r.text[end]) {
		end++
	}
	return first, end
}

func (r *reader) number() int64 {
	first, end := r.numberEnd()
	s, digits := r.text[r.at:end], r.text[first:end]
	if digits == "" || s == "-0" || digits[0] == '0' && len(digits) > 1 {
		r.giveUp(r.at, api.ErrText)
	}
	if end < len(r.text) && strings.IndexByte(".eE", r.text[end]) >= 0 {
		r.giveUp(end, api.ErrForm)
	}
	n, err := strconv.ParseInt(s, 10, 64)
	if err != nil {
		r.giveUp(r.at, api.ErrRange)
	}
	r.at = end
	return n
}

// list: passes an array or an object up to its last sign; its parts, with commas between, are read by one.
func (r *reader) list(last byte, one func()) {
	if r.open == api.MaxDepth {
		r.giveUp(r.at, api.ErrDeep)
	}
	r.open++
	r.at++
	if r.next() != last {
		one()
		for r.next() == ',' {
			r.at++
			one()
		}
	}
	r.take(last)
	r.open--
}

func (r *reader) array() api.Value {
	v := api.Value{Kind: api.JArray}
	r.list(']', func() {
		v.Items = append(v.Items, r.value())
	})
	return v
}

func (r *reader) object() api.Value {
	v := api.Value{Kind: api.JObject}
	r.list('}', func() {
		v.Keys = append(v.Keys, r.name(v.Keys))
		r.take(':')
		v.Items = append(v.Items, r.value())
	})
	return v
}

// name: the name that must stand next, which is none of those that the object has.
func (r *reader) name(names []string) string {
	if r.next() != '"' {
		r.giveUp(r.at, api.ErrText)
	}
	at := r.at
	name := r.quoted()
	if slices.Contains(names, name) {
		r.giveUp(at, api.ErrExists)
	}
	return name
}
