package query

import (
	"strconv"
	"strings"

	"fascine/api"
	"fascine/words"
)

// fault is what a reader throws where it can't go on.
type fault struct {
	at    int
	errno api.Errno
}

// reader reads a text from the left.
type reader struct {
	text string
	at   int // the place that is read next
	open int // how many NOTs and brackets are open
}

func (r *reader) giveUp(e api.Errno) {
	panic(fault{at: r.at, errno: e})
}

// parts: does a byte end the word ahead of it?
func parts(c byte) bool {
	return c == ' ' || c == '(' || c == ')'
}

// next: the bracket or word that stands next, up to which the blanks are passed; empty at the end.
func (r *reader) next() string {
	for r.at < len(r.text) && r.text[r.at] == ' ' {
		r.at++
	}
	end := r.at
	for end < len(r.text) && !parts(r.text[end]) {
		end++
	}
	if end == r.at && end < len(r.text) {
		end++
	}
	return r.text[r.at:end]
}

// enter: passes a NOT or a bracket that is open from here on.
func (r *reader) enter(sign string) {
	if r.open == api.MaxDepth {
		r.giveUp(api.ErrDeep)
	}
	r.open++
	r.at += len(sign)
}

func (r *reader) whole() api.Query {
	q := r.or()
	if r.next() != "" {
		r.giveUp(api.ErrText)
	}
	return q
}

// joined: the query of some kids, of which one alone is itself.
func joined(kind byte, kids []api.Query) api.Query {
	if len(kids) == 1 {
		return kids[0]
	}
	return api.Query{Kind: kind, Kids: kids}
}

func (r *reader) or() api.Query {
	kids := []api.Query{r.and()}
	for r.next() == orSign {
		r.at += len(orSign)
		kids = append(kids, r.and())
	}
	return joined(api.QOr, kids)
}

func (r *reader) and() api.Query {
	kids := []api.Query{r.not()}
	for s := r.next(); s != "" && s != closeSign && s != orSign; s = r.next() {
		kids = append(kids, r.not())
	}
	return joined(api.QAnd, kids)
}

func (r *reader) not() api.Query {
	switch s := r.next(); s {
	case notSign:
		r.enter(s)
		kid := r.not()
		r.open--
		return api.Query{Kind: api.QNot, Kids: []api.Query{kid}}
	case openSign:
		r.enter(s)
		q := r.or()
		if r.next() != closeSign {
			r.giveUp(api.ErrText)
		}
		r.at += len(closeSign)
		r.open--
		return q
	default:
		return r.word(s)
	}
}

func (r *reader) word(s string) api.Query {
	q, ok := wordOf(s)
	if !ok {
		r.giveUp(api.ErrText)
	}
	r.at += len(s)
	return q
}

// wordOf: what a word asks; false, if it is none.
func wordOf(s string) (api.Query, bool) {
	switch {
	case s == allSign:
		return api.Query{Kind: api.QAll}, true
	case words.One(s):
		return api.Query{Kind: api.QWord, Text: strings.Clone(s)}, true
	case words.Pair(s):
		return api.Query{Kind: api.QPair, Text: strings.Clone(s)}, true
	case strings.HasPrefix(s, afterSign):
		n, ok := number(s[len(afterSign):])
		return api.Query{Kind: api.QAfter, N: n}, ok
	case strings.HasPrefix(s, beforeSign):
		n, ok := number(s[len(beforeSign):])
		return api.Query{Kind: api.QBefore, N: n}, ok
	}
	return api.Query{}, false
}

// number: a number in the one form in which it is written.
func number(s string) (int64, bool) {
	n, err := strconv.ParseInt(s, 10, 64)
	return n, err == nil && strconv.FormatInt(n, 10) == s
}
