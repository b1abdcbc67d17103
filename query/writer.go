package query

import (
	"strconv"
	"strings"

	"fascine/api"
	"fascine/words"
)

// fits: has a query the fields that its kind needs, and no others? (Its kids aren't looked at.)
func fits(q api.Query) bool {
	switch q.Kind {
	case api.QAll:
		return q.Text == "" && q.N == 0 && len(q.Kids) == 0
	case api.QWord:
		return words.One(q.Text) && q.N == 0 && len(q.Kids) == 0
	case api.QPair:
		return words.Pair(q.Text) && q.N == 0 && len(q.Kids) == 0
	case api.QAfter, api.QBefore:
		return q.Text == "" && len(q.Kids) == 0
	case api.QNot:
		return q.Text == "" && q.N == 0 && len(q.Kids) == 1
	case api.QAnd, api.QOr:
		return q.Text == "" && q.N == 0 && len(q.Kids) >= 2
	}
	return false
}

// right: is a query one that a text can ask, however long and deep?
func right(q api.Query) bool {
	if !fits(q) {
		return false
	}
	for _, kid := range q.Kids {
		if !right(kid) {
			return false
		}
	}
	return true
}

// bracketed: does a kid of that kind need brackets? No kid has others, so that the text is no longer and no deeper than it must be.
func bracketed(parent, kid byte) bool {
	return kid == api.QOr || kid == api.QAnd && parent != api.QOr
}

// writer lays down the text of a query that is right.
type writer struct {
	text strings.Builder
	open int // how many NOTs and brackets are open
	long bool
	deep bool
}

// put: more of the text, of which no more is kept than may be told.
func (w *writer) put(s string) {
	if w.text.Len()+len(s) > api.MaxQuery {
		w.long = true
		return
	}
	w.text.WriteString(s)
}

// enter: a NOT or a bracket that is open from here on.
func (w *writer) enter(s string) {
	w.put(s)
	w.open++
	if w.open > api.MaxDepth {
		w.deep = true
	}
}

func (w *writer) query(q api.Query) {
	switch q.Kind {
	case api.QAll:
		w.put(allSign)
	case api.QWord, api.QPair:
		w.put(q.Text)
	case api.QAfter:
		w.put(afterSign + strconv.FormatInt(q.N, 10))
	case api.QBefore:
		w.put(beforeSign + strconv.FormatInt(q.N, 10))
	case api.QNot:
		w.enter(notSign + blank)
		w.kid(q.Kind, q.Kids[0])
		w.open--
	case api.QAnd:
		w.list(q, blank)
	case api.QOr:
		w.list(q, blank+orSign+blank)
	}
}

// list: the kids of a query, with a text between each two.
func (w *writer) list(q api.Query, between string) {
	for i, kid := range q.Kids {
		// ErrLong goes ahead of all that could be met behind it.
		if w.long {
			return
		}
		if i > 0 {
			w.put(between)
		}
		w.kid(q.Kind, kid)
	}
}

func (w *writer) kid(parent byte, q api.Query) {
	if !bracketed(parent, q.Kind) {
		w.query(q)
		return
	}
	w.enter(openSign)
	w.query(q)
	w.put(closeSign)
	w.open--
}
