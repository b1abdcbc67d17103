package json

import (
	"strconv"
	"strings"
	"unicode/utf8"

	"fascine/api"
)

const hexDigits = "0123456789abcdef"

// writer lays down the text of a value.
type writer struct {
	strings.Builder
	values int // how many values have begun
	open   int // how many arrays and objects are open
	long   bool
}

// put: more of the text, of which no more is kept than may be told.
func (w *writer) put(s string) {
	if w.long || w.Len()+len(s) > api.MaxJSON {
		w.long = true
		return
	}
	w.WriteString(s)
}

func (w *writer) value(v api.Value) api.Errno {
	if w.values == api.MaxItems {
		return api.ErrLong
	}
	w.values++
	switch v.Kind {
	case api.JNull:
		w.put(nullWord)
	case api.JFalse:
		w.put(falseWord)
	case api.JTrue:
		w.put(trueWord)
	case api.JNumber:
		w.put(strconv.FormatInt(v.N, 10))
	case api.JString:
		return w.quoted(v.Text)
	case api.JArray, api.JObject:
		return w.deeper(v)
	default:
		return api.ErrForm
	}
	return api.OK
}

// quoted: a text or a name.
func (w *writer) quoted(s string) api.Errno {
	if !utf8.ValidString(s) {
		return api.ErrForm
	}
	w.put(`"`)
	for _, c := range s {
		// Another error may still be met behind this text, but nothing more in it.
		if w.long {
			break
		}
		w.character(c)
	}
	w.put(`"`)
	return api.OK
}

func (w *writer) character(c rune) {
	switch {
	case c == '"' || c == '\\':
		w.put(`\` + string(c))
	case c < ' ':
		w.put(escapeSign + "00" + hexDigits[c>>4:c>>4+1] + hexDigits[c&0xf:c&0xf+1])
	default:
		w.put(string(c))
	}
}

// deeper: an array or an object.
func (w *writer) deeper(v api.Value) api.Errno {
	if w.open == api.MaxDepth {
		return api.ErrDeep
	}
	w.open++
	e := api.OK
	if v.Kind == api.JArray {
		e = w.array(v.Items)
	} else {
		e = w.object(v.Keys, v.Items)
	}
	w.open--
	return e
}

func (w *writer) array(items []api.Value) api.Errno {
	w.put("[")
	for i, v := range items {
		if i > 0 {
			w.put(",")
		}
		if e := w.value(v); e != api.OK {
			return e
		}
	}
	w.put("]")
	return api.OK
}

func (w *writer) object(keys []string, items []api.Value) api.Errno {
	if len(keys) != len(items) {
		return api.ErrForm
	}
	names := map[string]struct{}{}
	w.put("{")
	for i, name := range keys {
		if i > 0 {
			w.put(",")
		}
		if _, ok := names[name]; ok {
			return api.ErrExists
		}
		names[name] = struct{}{}
		if e := w.quoted(name); e != api.OK {
			return e
		}
		w.put(":")
		if e := w.value(items[i]); e != api.OK {
			return e
		}
	}
	w.put("}")
	return api.OK
}
