package json_test

import (
	"bytes"
	stdjson "encoding/json"
	"fmt"
	"math/big"
	"math/rand"
	"reflect"
	"regexp"
	"strings"
	"testing"
	"unicode/utf16"
	"unicode/utf8"

	"fascine/api"
	"fascine/json"
)

// The model reads a text sign by sign, without recursion: it knows what may stand next, and what is open. What stands in texts and numbers it tells by patterns.

const (
	wantValue = iota
	wantValueOrEnd
	wantName
	wantNameOrEnd
	wantColon
	wantComma
)

// level is an array or an object that is open.
type level struct {
	v    api.Value
	name string
}

type model struct {
	s     string
	at    int
	count int
	open  []level
	want  int
	done  bool
	whole api.Value
}

// modelFault: a place and an error; none, if the error is OK.
type modelFault struct {
	at int
	e  api.Errno
}

var right = modelFault{}

var (
	blanksThere  = regexp.MustCompile(`^[ \t\n\r]*`)
	numberThere  = regexp.MustCompile(`^-?[0-9]*`)
	wholeNumber  = regexp.MustCompile(`^(0|-?[1-9][0-9]*)$`)
	simpleEscape = regexp.MustCompile(`^\\["\\/bfnrt]`)
	aloneEscape  = regexp.MustCompile(`^\\u(?:[0-9a-ce-fA-CE-F][0-9a-fA-F]{3}|[dD][0-7][0-9a-fA-F]{2})`)
	pairEscape   = regexp.MustCompile(`^\\u[dD][89abAB][0-9a-fA-F]{2}\\u[dD][c-fC-F][0-9a-fA-F]{2}`)
	firstEscape  = regexp.MustCompile(`^\\u[dD][89abAB][0-9a-fA-F]{2}`)
	secondEscape = regexp.MustCompile(`^\\u[dD][c-fC-F][0-9a-fA-F]{2}`)
	hexThere     = regexp.MustCompile(`^[0-9a-fA-F]{0,4}`)
)

// hexFault: the place of the first byte that is none of four digits.
func hexFault(s string, at int) (int, bool) {
	n := len(hexThere.FindString(s[at:]))
	if len(s) < at+4 {
		return at, true
	}
	return at + n, n < 4
}

// escapeFault: the place that isn't right in what stands at a backslash and is no escape.
func escapeFault(s string, at int) int {
	rest := s[at:]
	if !strings.HasPrefix(rest, `\u`) {
		return at + 1
	}
	if place, ok := hexFault(s, at+2); ok {
		return place
	}
	if secondEscape.MatchString(rest) || !strings.HasPrefix(rest[6:], `\u`) {
		return at + 6
	}
	if place, ok := hexFault(s, at+8); ok {
		return place
	}
	return at + 12
}

// modelText: the text whose " stands at a place, and the place behind it.
func modelText(s string, at int) (string, int, modelFault) {
	var b strings.Builder
	for at++; ; {
		rest := s[at:]
		c, n := utf8.DecodeRuneInString(rest)
		switch {
		case strings.HasPrefix(rest, `"`):
			return b.String(), at + 1, right
		case rest == "" || c < 32 || !utf8.ValidString(rest[:n]):
			return "", 0, modelFault{at, api.ErrText}
		case c != '\\':
			b.WriteString(rest[:n])
			at += n
		case simpleEscape.MatchString(rest):
			b.WriteByte("\"\\/\b\f\n\r\t"[strings.Index(`"\/bfnrt`, rest[1:2])])
			at += 2
		case aloneEscape.MatchString(rest):
			var c rune
			fmt.Sscanf(rest[2:6], "%x", &c)
			b.WriteRune(c)
			at += 6
		case pairEscape.MatchString(rest):
			var c, d rune
			fmt.Sscanf(rest[:12], `\u%4x\u%4x`, &c, &d)
			b.WriteRune(utf16.DecodeRune(c, d))
			at += 12
		default:
			return "", 0, modelFault{escapeFault(s, at), api.ErrText}
		}
	}
}

// modelNumber: the number that stands at a place, and the place behind it.
func modelNumber(s string, at int) (int64, int, modelFault) {
	digits := numberThere.FindString(s[at:])
	end := at + len(digits)
	n, _ := new(big.Int).SetString(digits, 10)
	switch {
	case !wholeNumber.MatchString(digits):
		return 0, 0, modelFault{at, api.ErrText}
	case end < len(s) && strings.Contains(".eE", s[end:end+1]):
		return 0, 0, modelFault{end, api.ErrForm}
	case !n.IsInt64():
		return 0, 0, modelFault{at, api.ErrRange}
	}
	return n.Int64(), end, right
}

// sign: the byte that stands next, as a text; empty at the end.
func (m *model) sign() string {
	m.at += len(blanksThere.FindString(m.s[m.at:]))
	return m.s[m.at:min(len(m.s), m.at+1)]
}

// put: a value is there whole.
func (m *model) put(v api.Value) {
	m.want = wantComma
	if len(m.open) == 0 {
		m.done, m.whole = true, v
		return
	}
	top := &m.open[len(m.open)-1]
	top.v.Items = append(top.v.Items, v)
	if top.v.Kind == api.JObject {
		top.v.Keys = append(top.v.Keys, top.name)
	}
}

// closes: may this sign close what is open?
func (m *model) closes(c string) bool {
	if len(m.open) == 0 || m.want == wantValue || m.want == wantName || m.want == wantColon {
		return false
	}
	if m.open[len(m.open)-1].v.Kind == api.JArray {
		return c == "]"
	}
	return c == "}"
}

func (m *model) value(c string) modelFault {
	if m.count == 512 {
		return modelFault{m.at, api.ErrLong}
	}
	m.count++
	for word, v := range map[string]api.Value{"null": null, "false": no, "true": yes} {
		if strings.HasPrefix(m.s[m.at:], word) {
			m.at += len(word)
			m.put(v)
			return right
		}
	}
	f := modelFault{m.at, api.ErrText}
	switch {
	case c == "":
	case strings.Contains("-0123456789", c):
		var v api.Value
		if v.N, m.at, f = modelNumber(m.s, m.at); f == right {
			v.Kind = api.JNumber
			m.put(v)
		}
	case c == `"`:
		var v api.Value
		if v.Text, m.at, f = modelText(m.s, m.at); f == right {
			v.Kind = api.JString
			m.put(v)
		}
	case c == "[" || c == "{":
		if len(m.open) == 16 {
			return modelFault{m.at, api.ErrDeep}
		}
		m.at++
		m.want, f = wantValueOrEnd, right
		v := array()
		if c == "{" {
			m.want, v = wantNameOrEnd, object(nil)
		}
		m.open = append(m.open, level{v: v})
	}
	return f
}

func (m *model) name(c string) modelFault {
	if c != `"` {
		return modelFault{m.at, api.ErrText}
	}
	name, end, f := modelText(m.s, m.at)
	if f != right {
		return f
	}
	top := &m.open[len(m.open)-1]
	for _, k := range top.v.Keys {
		if k == name {
			return modelFault{m.at, api.ErrExists}
		}
	}
	top.name, m.at, m.want = name, end, wantColon
	return right
}

func (m *model) step(c string) modelFault {
	switch {
	case m.closes(c):
		v := m.open[len(m.open)-1].v
		m.open = m.open[:len(m.open)-1]
		m.at++
		m.put(v)
		return right
	case m.want == wantValue || m.want == wantValueOrEnd:
		return m.value(c)
	case m.want == wantName || m.want == wantNameOrEnd:
		return m.name(c)
	case m.want == wantColon && c == ":":
		m.want = wantValue
	case m.want == wantComma && c == ",":
		m.want = wantValue
		if m.open[len(m.open)-1].v.Kind == api.JObject {
			m.want = wantName
		}
	default:
		return modelFault{m.at, api.ErrText}
	}
	m.at++
	return right
}

func modelParse(s string) (api.Value, modelFault) {
	if len(s) > 65536 {
		return api.Value{}, modelFault{0, api.ErrLong}
	}
	m := model{s: s}
	for !m.done {
		if f := m.step(m.sign()); f != right {
			return api.Value{}, f
		}
	}
	if m.sign() != "" {
		return api.Value{}, modelFault{m.at, api.ErrText}
	}
	return m.whole, right
}

func holdAgainstModel(t *testing.T, s string) api.Errno {
	t.Helper()
	v, f := modelParse(s)
	got, at, e := json.Parse(s)
	if at != f.at || e != f.e || !equal(got, v) {
		t.Errorf("Parse(%.300q) = %s, %d, %d, want %s, %d, %d", s, brief(got), at, e, brief(v), f.at, f.e)
	}
	holdAgainstLibrary(t, s, got, e)
	return e
}

// holdAgainstLibrary: what is right is so for the library too, with the same value; what is right for the library alone is refused by one of the document's bounds.
func holdAgainstLibrary(t *testing.T, s string, v api.Value, e api.Errno) {
	t.Helper()
	if e == api.OK {
		d := stdjson.NewDecoder(strings.NewReader(s))
		d.UseNumber()
		var w any
		if err := d.Decode(&w); err != nil || !stdjson.Valid([]byte(s)) || !reflect.DeepEqual(w, library(v)) {
			t.Errorf("Parse(%.300q) = %s, the library's value is %v, %v", s, brief(v), w, err)
		}
		return
	}
	odd := strings.Contains(s, "-0") || strings.Contains(strings.ToLower(s), `\ud`) || !utf8.ValidString(s)
	if e == api.ErrText && !odd && stdjson.Valid([]byte(s)) {
		t.Errorf("Parse(%.300q): %d, but the library reads it", s, e)
	}
}

// library: a value as the library has it.
func library(v api.Value) any {
	switch v.Kind {
	case api.JNumber:
		return stdjson.Number(fmt.Sprint(v.N))
	case api.JString:
		return v.Text
	case api.JArray:
		l := []any{}
		for _, i := range v.Items {
			l = append(l, library(i))
		}
		return l
	case api.JObject:
		m := map[string]any{}
		for i, k := range v.Keys {
			m[k] = library(v.Items[i])
		}
		return m
	}
	return []any{nil, false, true}[v.Kind]
}

// eachOf: each text of up to so many signs between two others.
func eachOf(t *testing.T, signs []string, most int, front, back string) map[api.Errno]int {
	t.Helper()
	met := map[api.Errno]int{}
	var each func(s string, n int)
	each = func(s string, n int) {
		met[holdAgainstModel(t, front+s+back)]++
		if n == 0 || t.Failed() {
			return
		}
		for _, sign := range signs {
			each(s+sign, n-1)
		}
	}
	each("", most)
	return met
}

func TestEachShortText(t *testing.T) {
	signs := []string{"[", "]", "{", "}", ",", ":", "1", `"a"`, `"b":`, "null", " "}
	met := eachOf(t, signs, 5, "", "")
	if met[api.OK] < 100 || met[api.ErrText] < 1000 {
		t.Errorf("the texts came to %v", met)
	}
	met = eachOf(t, signs, 4, `{"a":[{},`, "]}")
	if met[api.OK] < 100 {
		t.Errorf("the texts came to %v", met)
	}
	met = eachOf(t, []string{`"a":`, `"b":`, "1", ",", "{", "}"}, 6, "{", "}")
	if met[api.OK] < 10 || met[api.ErrExists] < 100 {
		t.Errorf("the texts came to %v", met)
	}
}

func TestEachShortNumber(t *testing.T) {
	signs := strings.Split("-,0,1,.,e,E,+, ", ",")
	for _, around := range [][2]string{{"", ""}, {"[", "]"}, {`{"a":`, `,"b":1}`}} {
		met := eachOf(t, signs, 5, around[0], around[1])
		if met[api.OK] < 30 || met[api.ErrForm] < 1000 || met[api.ErrText] < 1000 {
			t.Errorf("the texts came to %v", met)
		}
	}
	for _, n := range []string{"922337203685477580", "-922337203685477580"} {
		met := eachOf(t, strings.Split("0,7,8,9,e", ","), 3, n, "")
		if met[api.OK] < 3 || met[api.ErrRange] < 10 {
			t.Errorf("the texts came to %v", met)
		}
	}
}

func TestEachShortQuotedText(t *testing.T) {
	signs := []string{`\`, "u", `\u`, "d800", "DBFF", "dc00", "DFFF", "00e9", "0", "x", `"`, "é", "\xc3", "\x1f"}
	for _, around := range [][2]string{{`"`, ""}, {`"`, `"`}, {`{"`, `":1}`}} {
		met := eachOf(t, signs, 4, around[0], around[1])
		if met[api.OK] < 20 || met[api.ErrText] < 1000 {
			t.Errorf("the texts came to %v", met)
		}
	}
	if met := eachOf(t, signs[2:8], 6, `"`, `"`); met[api.OK] < 20 {
		t.Errorf("the texts came to %v", met)
	}
}

// someText: one by chance.
func someText(r *rand.Rand) string {
	signs := []string{"a", "b", "\"", "\\", "/", "\n", "\x00", "\x1f", "\x7f", "é", "€", "\U0001f600", "\ufffd", " ", "u0041"}
	var b strings.Builder
	for range r.Intn(5) {
		b.WriteString(signs[r.Intn(len(signs))])
	}
	return b.String()
}

// tree: a value by chance, of no more than so many levels.
func tree(r *rand.Rand, levels int) api.Value {
	kind := r.Intn(9)
	if levels == 0 {
		kind = r.Intn(5)
	}
	switch kind {
	case 0, 1, 2:
		return api.Value{Kind: byte(kind)}
	case 3:
		return number(int64(r.Uint64()) >> r.Intn(64))
	case 4:
		return text(someText(r))
	}
	var items []api.Value
	for range r.Intn(5) {
		items = append(items, tree(r, levels-1))
	}
	if kind < 7 {
		return array(items...)
	}
	var keys []string
	for i := range items {
		keys = append(keys, someText(r)+fmt.Sprint(i))
	}
	return object(keys, items...)
}

// loose: a text with blanks and escapes that mean nothing else, of a value that has one.
func loose(r *rand.Rand, s string) string {
	var b strings.Builder
	within := false
	for i := 0; i < len(s); i++ {
		c := s[i]
		switch {
		case within && c == '\\':
			b.WriteString(s[i : i+2])
			i++
			continue
		case c == '"':
			within = !within
		case within && r.Intn(8) == 0 && c < 0x80:
			fmt.Fprintf(&b, []string{`\u%04x`, `\u%04X`}[r.Intn(2)], c)
			continue
		}
		blank := strings.Repeat(string(" \t\n\r"[r.Intn(4)]), r.Intn(2)*r.Intn(3))
		if !within && c != '"' && strings.IndexByte("[]{},:", c) >= 0 {
			b.WriteString(blank + s[i:i+1] + blank)
			continue
		}
		b.WriteByte(c)
	}
	return b.String()
}

// turned: a text at which something was changed.
func turned(r *rand.Rand, s string) string {
	signs := []string{"[", "]", "{", "}", ",", ":", `"`, `\`, `\u`, `\ud800`, `\udc00`, "0", "-", ".", "e", "1", "x", " ", "\xff", "\x00", "null", `"a":`}
	at := r.Intn(len(s) + 1)
	end := min(len(s), at+r.Intn(3))
	switch r.Intn(4) {
	case 0:
		return s[:at]
	case 1:
		return s[:at] + s[end:]
	case 2:
		return s[:at] + signs[r.Intn(len(signs))] + s[at:]
	}
	return s[:at] + signs[r.Intn(len(signs))] + s[end:]
}

func TestTextsByChance(t *testing.T) {
	r := rand.New(rand.NewSource(11))
	met := map[api.Errno]int{}
	for range 20000 {
		s, e := json.Write(tree(r, 1+r.Intn(6)))
		if e != api.OK {
			continue
		}
		met[holdAgainstModel(t, s)]++
		s = loose(r, s)
		met[holdAgainstModel(t, s)]++
		for range r.Intn(3) {
			s = turned(r, s)
			met[holdAgainstModel(t, s)]++
		}
	}
	for range 2000 {
		s := strings.Repeat(` [{"a":`, r.Intn(11)) + strings.Repeat("[", r.Intn(6)) + "1" + strings.Repeat("]", r.Intn(20))
		met[holdAgainstModel(t, s)]++
		s = "{"
		for range 1 + r.Intn(4) {
			s += string(rune('a'+r.Intn(6))) + `":` + fmt.Sprint(r.Uint64()>>r.Intn(8)) + `,"`
		}
		s = `{"` + strings.TrimSuffix(s[1:], `,"`) + "}"
		met[holdAgainstModel(t, s)]++
		met[holdAgainstModel(t, turned(r, s))]++
		s = "[" + strings.Repeat("[1,2], ", 160+r.Intn(15)) + strings.Repeat(`{"a":0 },`, r.Intn(20)) + "[ " + strings.Repeat("[", r.Intn(3))
		met[holdAgainstModel(t, s)]++
	}
	for _, e := range []api.Errno{api.OK, api.ErrText, api.ErrForm, api.ErrRange, api.ErrExists, api.ErrDeep, api.ErrLong} {
		if met[e] < 50 {
			t.Errorf("the texts came to %v", met)
		}
	}
}

// stop is something that is met in the order of a value's text: a piece of it, or an error.
type stop struct {
	piece string
	e     api.Errno
}

// stops: all that is met in a value which is so deep, as if each error were passed.
func stops(v api.Value, deep int) []stop {
	l := []stop{{}} // a value begins
	switch v.Kind {
	case api.JNull, api.JFalse, api.JTrue:
		return append(l, stop{piece: []string{"null", "false", "true"}[v.Kind]})
	case api.JNumber:
		return append(l, stop{piece: fmt.Sprint(v.N)})
	case api.JString:
		return append(l, textStops(v.Text)...)
	case api.JArray:
		if deep == 16 {
			l = append(l, stop{e: api.ErrDeep})
		}
		for i, k := range v.Items {
			l = append(l, ahead("[", i))
			l = append(l, stops(k, deep+1)...)
		}
		return append(l, behind("[", "]", len(v.Items)))
	case api.JObject:
		return append(l, objectStops(v, deep)...)
	}
	return append(l, stop{e: api.ErrForm})
}

// ahead: what stands ahead of an array's or object's item of that number.
func ahead(first string, i int) stop {
	if i == 0 {
		return stop{piece: first}
	}
	return stop{piece: ","}
}

// behind: what stands behind so many items.
func behind(first, last string, many int) stop {
	if many == 0 {
		return stop{piece: first + last}
	}
	return stop{piece: last}
}

func objectStops(v api.Value, deep int) []stop {
	var l []stop
	if deep == 16 {
		l = append(l, stop{e: api.ErrDeep})
	}
	if len(v.Keys) != len(v.Items) {
		return append(l, stop{e: api.ErrForm})
	}
	had := map[string]bool{}
	for i, k := range v.Keys {
		l = append(l, ahead("{", i))
		if had[k] {
			l = append(l, stop{e: api.ErrExists})
		}
		had[k] = true
		l = append(l, textStops(k)...)
		l = append(l, stop{piece: ":"})
		l = append(l, stops(v.Items[i], deep+1)...)
	}
	return append(l, behind("{", "}", len(v.Items)))
}

// textStops: of a text, whose escapes the library writes, but for some.
func textStops(s string) []stop {
	if !utf8.ValidString(s) {
		return []stop{{e: api.ErrForm}}
	}
	var b bytes.Buffer
	w := stdjson.NewEncoder(&b)
	w.SetEscapeHTML(false)
	w.Encode(s)
	p := strings.TrimSuffix(b.String(), "\n")
	p = regexp.MustCompile(`\\(u202[89]|.)`).ReplaceAllStringFunc(p, func(e string) string {
		if i := strings.Index(`bfnrt`, e[1:2]); i >= 0 {
			return fmt.Sprintf(`\u%04x`, "\b\f\n\r\t"[i])
		}
		if len(e) > 2 {
			return map[string]string{`\u2028`: "\u2028", `\u2029`: "\u2029"}[e]
		}
		return e
	})
	return []stop{{piece: p}}
}

func modelWrite(v api.Value) (string, api.Errno) {
	var b strings.Builder
	count := 0
	for _, s := range stops(v, 0) {
		if s == (stop{}) {
			count++
		}
		switch {
		case count > 512:
			return "", api.ErrLong
		case s.e != api.OK:
			return "", s.e
		}
		b.WriteString(s.piece)
	}
	if b.Len() > 65536 {
		return "", api.ErrLong
	}
	return b.String(), api.OK
}

// spoilt: a value in which something may have been changed so that there is no text.
func spoilt(r *rand.Rand, v api.Value) api.Value {
	p := &v
	for range r.Intn(6) {
		if len(p.Items) > 0 {
			p = &p.Items[r.Intn(len(p.Items))]
		}
	}
	switch r.Intn(10) {
	case 0:
		p.Kind = byte(r.Intn(10))
	case 1:
		p.Text += "\xff"
	case 2:
		p.Keys = append(p.Keys, "x")
	case 3, 8, 9:
		if len(p.Keys) > 0 {
			p.Keys[r.Intn(len(p.Keys))] = p.Keys[r.Intn(len(p.Keys))]
		}
	case 4:
		if len(p.Keys) > 0 {
			p.Keys[r.Intn(len(p.Keys))] += "\xc3"
		}
	case 5:
		*p = arrays(14+r.Intn(4), *p)
	case 6:
		*p = array(append(many(500+r.Intn(14), number(1)), *p)...)
	case 7:
		*p = array(text("\n"+strings.Repeat("a", 65490+r.Intn(50))), *p)
	}
	return v
}

func TestWriteOfTreesByChance(t *testing.T) {
	r := rand.New(rand.NewSource(12))
	met := map[api.Errno]int{}
	for range 10000 {
		v := tree(r, r.Intn(7))
		for range r.Intn(4) {
			v = spoilt(r, v)
		}
		want, e := modelWrite(v)
		met[e]++
		if e != api.OK {
			checkNoText(t, v, e)
		} else {
			checkWrite(t, v, want)
		}
		if !json.Same(v, plain(v)) || json.Same(v, array(v)) {
			t.Errorf("Same(%s)", brief(v))
		}
	}
	for _, e := range []api.Errno{api.OK, api.ErrForm, api.ErrExists, api.ErrDeep, api.ErrLong} {
		if met[e] < 50 {
			t.Errorf("the values came to %v", met)
		}
	}
}

// Parse of Write's text is the value.
func TestThereAndBackByChance(t *testing.T) {
	r := rand.New(rand.NewSource(13))
	good := 0
	for range 20000 {
		v := tree(r, r.Intn(8))
		s, e := json.Write(v)
		if e != api.OK {
			continue
		}
		good++
		checkParse(t, s, v)
		got, _, _ := json.Parse(s)
		if !json.Same(got, v) {
			t.Errorf("Same(%s, %s)", brief(got), brief(v))
		}
		checkWrite(t, got, s)
	}
	if good < 10000 {
		t.Errorf("%d values had a text", good)
	}
}
