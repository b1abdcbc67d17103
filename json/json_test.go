package json_test

import (
	"fmt"
	"math"
	"reflect"
	"strings"
	"testing"
	"unsafe"

	"fascine/api"
	"fascine/json"
)

// The signatures that the chapter lists.
var (
	_ func(string) (api.Value, int, api.Errno) = json.Parse
	_ func(api.Value) (string, api.Errno)      = json.Write
	_ func(a, b api.Value) bool                = json.Same
)

var null, no, yes = api.Value{Kind: api.JNull}, api.Value{Kind: api.JFalse}, api.Value{Kind: api.JTrue}

func number(n int64) api.Value            { return api.Value{Kind: api.JNumber, N: n} }
func text(s string) api.Value             { return api.Value{Kind: api.JString, Text: s} }
func array(items ...api.Value) api.Value  { return api.Value{Kind: api.JArray, Items: items} }
func names(l ...string) []string          { return l }
func values(items ...api.Value) api.Value { return api.Value{Items: items} }

// object: of these names, with the items of a list.
func object(keys []string, items ...api.Value) api.Value {
	return api.Value{Kind: api.JObject, Keys: keys, Items: items}
}

// arrays: so many arrays, one in another, and a value within.
func arrays(n int, v api.Value) api.Value {
	for range n {
		v = array(v)
	}
	return v
}

// objects: likewise.
func objects(n int, v api.Value) api.Value {
	for range n {
		v = object(names("a"), v)
	}
	return v
}

// many: a value so many times.
func many(n int, v api.Value) []api.Value {
	l := make([]api.Value, n)
	for i := range l {
		l[i] = v
	}
	return l
}

// plain: a value without empty lists.
func plain(v api.Value) api.Value {
	p := api.Value{Kind: v.Kind, N: v.N, Text: v.Text, Keys: append([]string(nil), v.Keys...)}
	for _, i := range v.Items {
		p.Items = append(p.Items, plain(i))
	}
	return p
}

// brief: the beginning of what a value tells.
func brief(v api.Value) string {
	return fmt.Sprintf("%.200s", fmt.Sprint(v))
}

// equal: Same told in another way.
func equal(a, b api.Value) bool {
	return reflect.DeepEqual(plain(a), plain(b))
}

func checkParse(t *testing.T, s string, want api.Value) {
	t.Helper()
	v, at, e := json.Parse(s)
	if e != api.OK || at != 0 || !equal(v, want) {
		t.Errorf("Parse(%.80q) = %s, %d, %d, want %s", s, brief(v), at, e, brief(want))
	}
}

func checkFault(t *testing.T, s string, e api.Errno, at int) {
	t.Helper()
	v, gotAt, gotE := json.Parse(s)
	if gotE != e || gotAt != at || !equal(v, api.Value{}) {
		t.Errorf("Parse(%.80q) = %s, %d, %d, want at %d, %d", s, brief(v), gotAt, gotE, at, e)
	}
}

func checkWrite(t *testing.T, v api.Value, want string) {
	t.Helper()
	if s, e := json.Write(v); s != want || e != api.OK {
		t.Errorf("Write(%s) = %.80q of %d bytes, %d, want %.80q of %d", brief(v), s, len(s), e, want, len(want))
	}
}

func checkNoText(t *testing.T, v api.Value, e api.Errno) {
	t.Helper()
	if s, got := json.Write(v); s != "" || got != e {
		t.Errorf("Write(%s) = %.80q, %d, want %d", brief(v), s, got, e)
	}
}

// inside: a text within others, and how many bytes stand ahead of it.
func inside(s string) map[string]int {
	all := map[string]int{}
	for _, form := range []string{"%s", " \t\n\r %s", "[%s", "[ %s", "[1,%s", "[[],{} , %s", `{"a":%s`, `{ "a" : %s`, `{"a":[],"b":[%s`} {
		all[fmt.Sprintf(form, s)] = strings.Index(form, "%s")
	}
	return all
}

// P11.1

func TestParseOfTheChapter(t *testing.T) {
	checkParse(t, `[1, "a\u00e9"]`, array(number(1), text("aé")))
	checkFault(t, "01", api.ErrText, 0)
	checkFault(t, "-", api.ErrText, 0)
	checkFault(t, "tru", api.ErrText, 0)
	checkFault(t, "1.5", api.ErrForm, 1)
	checkFault(t, "9223372036854775808", api.ErrRange, 0)
	checkFault(t, `{"a":1,"a":2}`, api.ErrExists, 7)
}

func TestParseOfOneValue(t *testing.T) {
	for s, v := range map[string]api.Value{
		"null": null, "false": no, "true": yes,
		"0": number(0), "7": number(7), "-1": number(-1), "10": number(10), "1234567890": number(1234567890),
		"9223372036854775807": number(math.MaxInt64), "-9223372036854775808": number(math.MinInt64),
		`""`: text(""), `"a"`: text("a"), `"null"`: text("null"), `" "`: text(" "), `"é"`: text("é"), `"\\"`: text(`\`),
		"[]": array(), "[ ]": array(), "[\t\r\n ]": array(), "{}": object(nil), "{ \n}": object(nil),
		"[1]": array(number(1)), `{"a":1}`: object(names("a"), number(1)), `{"":""}`: object(names(""), text("")),
	} {
		for _, form := range []string{"%s", " %s", "%s ", "\t\n\r %s\r\n\t "} {
			checkParse(t, fmt.Sprintf(form, s), v)
		}
		checkParse(t, "["+s+"]", array(v))
		checkParse(t, "[ "+s+" , "+s+"\n]", array(v, v))
		checkParse(t, "[[["+s+"]]]", arrays(3, v))
		checkParse(t, `{"x":`+s+"}", object(names("x"), v))
		checkParse(t, "{\r\"x\"\t:\n"+s+" ,\"y\" : "+s+" }", object(names("x", "y"), v, v))
		checkParse(t, `{"x":{"x":`+s+"}}", object(names("x"), object(names("x"), v)))
	}
}

func TestParseOfSeveral(t *testing.T) {
	checkParse(t, `[null,true,false,0,"",[],{}]`, array(null, yes, no, number(0), text(""), array(), object(nil)))
	checkParse(t, `{"b":1,"a":[2,{"b":3}],"":null,"B":4}`,
		object(names("b", "a", "", "B"), number(1), array(number(2), object(names("b"), number(3))), null, number(4)))
	checkParse(t, `[[1,2],[3],[],[[4]]]`, array(array(number(1), number(2)), array(number(3)), array(), array(array(number(4)))))
	// Of objects beside and within one another each has names of its own.
	checkParse(t, `[{"a":1},{"a":{"a":2}}]`, array(object(names("a"), number(1)), object(names("a"), object(names("a"), number(2)))))
}

func TestParseOfEscapes(t *testing.T) {
	for s, want := range map[string]string{
		`\"`: `"`, `\\`: `\`, `\/`: "/", `\b`: "\b", `\f`: "\f", `\n`: "\n", `\r`: "\r", `\t`: "\t",
		`\u0000`: "\x00", `\u0041`: "A", `\u00e9`: "é", `\u00E9`: "é", `\u20ac`: "€", `\uABCD`: "\uabcd", `\uabcd`: "\uabcd",
		`\ud7ff`: "\ud7ff", `\ue000`: "\ue000", `\uffff`: "\uffff", `\uFFFD`: "\ufffd", `\u0022`: `"`, `\u005c`: `\`, `\u005cn`: `\n`,
		`\ud800\udc00`: "\U00010000", `\uD83D\uDE00`: "\U0001f600", `\udbff\udfff`: "\U0010ffff", `\uD800\udfff`: "\U000103ff", `\udbFF\uDc00`: "\U0010fc00",
		`\\u0041`: `\u0041`, `\u00411`: "A1", `\/\/`: "//", "/": "/", "\x7f": "\x7f", "\u2028": "\u2028", "\ufffd": "\ufffd", "\U0010ffff": "\U0010ffff",
	} {
		checkParse(t, `"`+s+`"`, text(want))
		checkParse(t, `"a`+s+"b"+s+`"`, text("a"+want+"b"+want))
		checkParse(t, `{"`+s+`":"x"}`, object(names(want), text("x")))
	}
}

func TestParseOfNoNumber(t *testing.T) {
	for s, at := range map[string]int{
		"-": 0, "--1": 0, "-a": 0, "- 1": 0, "-.5": 0, "-e5": 0, "00": 0, "01": 0, "007": 0, "-00": 0, "-01": 0, "-0": 0,
		"-0.5": 0, "-0e1": 0, "00.5": 0, "01e1": 0, "-01.5": 0, "00000000000000000000000000000001": 0, "-]": 0, `-"`: 0,
		"+1": 0, ".5": 0, "e5": 0, "E": 0, "x": 0, "0x1": 1, "1x": 1, "1_000": 1, "1-": 1, "1+1": 1, "12\x00": 2, "5é": 1,
		"Infinity": 0, "NaN": 0,
	} {
		for whole, ahead := range inside(s) {
			checkFault(t, whole, api.ErrText, ahead+at)
			checkFault(t, whole+"]", api.ErrText, ahead+at)
		}
	}
}

func TestParseOfNumbersThatAreNotWhole(t *testing.T) {
	for s, at := range map[string]int{
		"1.5": 1, "0.5": 1, "0.0": 1, "1.": 1, "1e5": 1, "1E5": 1, "0e0": 1, "1e": 1, "-1.5": 2, "-12E+3": 3, "1..": 1, "0E": 1,
		"99999999999999999999.5": 20, "9223372036854775808e1": 19, "-9223372036854775809.0": 20, "120.": 3,
	} {
		for whole, ahead := range inside(s) {
			checkFault(t, whole, api.ErrForm, ahead+at)
			checkFault(t, whole+"]", api.ErrForm, ahead+at)
		}
	}
	// Right behind it: not elsewhere.
	checkFault(t, "1 .5", api.ErrText, 2)
	checkFault(t, "1 e5", api.ErrText, 2)
}

func TestParseOfNumbersThatDoNotFit(t *testing.T) {
	for _, s := range []string{"9223372036854775808", "-9223372036854775809", "9999999999999999999", "-10000000000000000000", "18446744073709551616", strings.Repeat("9", 5000), "-" + strings.Repeat("1", 5000)} {
		for whole, ahead := range inside(s) {
			checkFault(t, whole, api.ErrRange, ahead)
			checkFault(t, whole+"x", api.ErrRange, ahead)
		}
	}
}

func TestParseOfNoWord(t *testing.T) {
	for _, s := range []string{"n", "nul", "nulL", "Null", "NULL", "nil", "t", "tru", "tr ue", "True", "f", "fals", "alse", "f alse", "undefined", "a", "'a'", "\x00", "\x0b", "\x0c", "\xa0", "\u00a0", "\ufeff1", "\xff", "é", "/", "\\", "#", "(1)"} {
		for whole, ahead := range inside(s) {
			checkFault(t, whole, api.ErrText, ahead)
		}
	}
	for _, s := range []string{"null", "true", "false", "\"a\"", "[]", "{}", "0", "-7"} {
		for _, behind := range []string{"x", "null", "\"", "[", "{", ":", "\x00", "\x0b", "\u00a0"} {
			checkFault(t, s+behind, api.ErrText, len(s))
			checkFault(t, s+" "+behind, api.ErrText, len(s)+1)
			checkFault(t, "["+s+behind, api.ErrText, len(s)+1)
			checkFault(t, `{"a":`+s+behind, api.ErrText, len(s)+5)
		}
		for _, behind := range []string{",", "]", "}", ",1"} {
			checkFault(t, s+behind, api.ErrText, len(s))
		}
	}
}

func TestParseThatEnds(t *testing.T) {
	for _, s := range []string{
		"", " ", "\t\r\n ", "[", "[ ", "[1", "[1 ", "[1,", "[1, ", "[[]", "[[],", "{", "{ ", `{"a"`, `{"a" `, `{"a":`, `{"a": `, `{"a":1`, `{"a":1 `, `{"a":1,`, `{"a":1, `,
		`{"a":{}`, `[{"a":[1`, `"`, `"a`, `"é`, `"\\`, `"\"`, `"\`, `"\u00e9`, `{"`, `{"a`, `{"a\`, `{"a":"`, `{"a":"b`, `["a","b`, `"\ud800\udc00`, `"\u`,
	} {
		checkFault(t, s, api.ErrText, len(s))
	}
}

func TestParseOfWhatCannotStand(t *testing.T) {
	for s, at := range map[string]int{
		"]": 0, "}": 0, ",": 0, ":": 0, "[,": 1, "[,1]": 1, "[:": 1, "[}": 1, "[1}": 2, "[1:2]": 2, "[1,]": 3, "[1, ]": 4, "[1,,2]": 3, "[1 2]": 3, "[1]]": 3, "[1],": 3, "[]]": 2,
		"{]": 1, "{,": 1, "{:": 1, "{1:2}": 1, "{a:1}": 1, "{'a':1}": 1, "{null:1}": 1, "{[]:1}": 1, `{"a"}`: 4, `{"a",`: 4, `{"a"]`: 4, `{"a" 1}`: 5, `{"a"::1}`: 5, `{"a":}`: 5, `{"a":,`: 5, `{"a":]`: 5,
		`{"a":1]`: 6, `{"a":1:`: 6, `{"a":1,}`: 7, `{"a":1, }`: 8, `{"a":1,,`: 7, `{"a":1,2`: 7, `{"a":1,b`: 7, `{"a":1 "b":2}`: 7, `{"a":1}}`: 7, `{}}`: 2, `{},`: 2, `{} {}`: 3, `"a" "b"`: 4, `"a""b"`: 3, `1 2`: 2,
		`[1,"a",x]`: 7, `[[1,[2,[3,}`: 10, `{"a":{"b":{"c":]`: 15,
	} {
		checkFault(t, s, api.ErrText, at)
		checkFault(t, "  "+s, api.ErrText, 2+at)
	}
}

// textFaults: what may stand behind a ", and the place in it that isn't right.
var textFaults = map[string]int{
	"\x00": 0, "\x1f": 0, "\n": 0, "\t": 0, "\r": 0, "a\x08b": 1, "é\x1e": 2,
	"\xff": 0, "\x80": 0, "a\xbf": 1, "\xc3": 0, "\xc3(": 0, "\xc3\"": 0, "é\xc3": 2, "\xe2\x82": 0, "\xe2\x82\"": 0, "\xf0\x9f\x98a": 0, "\xe2\x82\x1f": 0,
	"\xc0\x80": 0, "\xc1\xbf": 0, "\xe0\x80\x80": 0, "\xed\xa0\x80": 0, "\xed\xbf\xbf": 0, "\xf0\x80\x80\x80": 0, "\xf4\x90\x80\x80": 0, "\xf5\x80\x80\x80": 0, "€\xa9": 3,
	`\a`: 1, `\x`: 1, `\0`: 1, `\'`: 1, `\N`: 1, `\B`: 1, `\U0041`: 1, `\ `: 1, "\\\n": 1, "\\\x00": 1, "\\\xff": 1, `\é`: 1, `ab\nc\v`: 6, `\v1234`: 1, `\\\a`: 3,
	`\uX000`: 2, `\u0X00`: 3, `\u00X0`: 4, `\u000X`: 5, `\u000g`: 5, `\u00G0`: 4, `\u 123`: 2, `\u+123`: 2, `\u-001`: 2, `\u0x41`: 3, `\u{41}`: 2, `\u"aaa`: 2, `\u12"a`: 4, `\u123"`: 5, `\u12é`: 4, "\\u12\x00\x00": 4,
	`\u000/`: 5, `\u000:`: 5, "\\u000`": 5, `\u000@`: 5, `\uD8`: 2, `\u00e9\uX000`: 8,
	`\ud800"`: 6, `\ud800a`: 6, `\ud800é`: 6, `\ud800\n`: 6, `\ud800\`: 6, `\ud800\\`: 6, `\ud800\"`: 6, `\ud800\U`: 6, `\ud800\x`: 6, `\ud800u`: 6, `\udbff `: 6, "\\uD800\x00": 6, "\\udBff\xff": 6, `a\uDAbc"`: 7,
	`\udc00"`: 6, `\udc00`: 6, `\uDFFF\ud800`: 6, `\udc00\udc00`: 6, `\udc00x`: 6, `\uDdDd"`: 6, "é\\udfff\xff": 8,
	`\ud800\u0041"`: 12, `\ud800\ud800"`: 12, `\ud800\ud800\udc00`: 12, `\ud800\udbff`: 12, `\ud800\ue000"`: 12, `\uD800\uD7FF`: 12, `\udbff\uffff"`: 12,
	`\ud800\uX000`: 8, `\ud800\udX00`: 9, `\ud800\udc0X`: 11, `\ud800\udc0"`: 11, `\ud800\u"aaa`: 8,
}

// Of these fewer than four bytes are left behind \u: nothing may stand behind them.
var textEnds = map[string]int{
	`\u`: 2, `\u1`: 2, `\u12`: 2, `\u123`: 2, `\u"`: 2, `\u1"`: 2, `\u12"`: 2, `\uX`: 2, `\u0X`: 2, `\u00X`: 2, "\\u0\xff": 2, "\\u0é": 2, `ab\u12"`: 4,
	`\ud800\u`: 8, `\ud800\u1`: 8, `\ud800\udc0`: 8, `\ud800\u0X"`: 8,
}

func TestParseOfNoText(t *testing.T) {
	for s, at := range textFaults {
		for whole, ahead := range inside(`"` + s) {
			checkFault(t, whole, api.ErrText, ahead+1+at)
		}
		// Here enough bytes are left, and what isn't right is the same.
		if s != `\uD8` {
			checkFault(t, `"`+s+`zzzz"`, api.ErrText, 1+at)
			checkFault(t, `{"`+s+`zzzz":1}`, api.ErrText, 2+at)
			checkFault(t, `{"a":1,"a`+s+`zzzz":1}`, api.ErrText, 9+at)
		}
	}
	for s, at := range textEnds {
		checkFault(t, `"`+s, api.ErrText, 1+at)
		checkFault(t, `["`+s, api.ErrText, 2+at)
		checkFault(t, `{"`+s, api.ErrText, 2+at)
	}
	// Four bytes are left, but one is no digit.
	checkFault(t, `"\u123"`, api.ErrText, 6)
	checkFault(t, `"\u12"]`, api.ErrText, 5)
	checkFault(t, `"\ud800\u1"]]`, api.ErrText, 10)
}

func TestParseOfANameAgain(t *testing.T) {
	for s, at := range map[string]int{
		`{"a":1,"a":2}`: 7, `{"a":1, "a":2}`: 8, `{"a":1,"b":2,"a":3}`: 13, `{"":1,"":1}`: 6, `{"a":{"a":1},"a":2}`: 13, `[{"a":1},{"b":1,"b":1}]`: 16, `{"a":{"b":1,"b":1}}`: 12,
		// Names are held against each other by what they mean.
		`{"a":1,"\u0061":2}`: 7, `{"\u00e9":1,"é":2}`: 12, `{"\n":1,"\u000a":2}`: 8, `{"\ud83d\ude00":1,"` + "\U0001f600" + `":1}`: 18,
		// Told behind the name's end: what isn't right behind it isn't looked at.
		`{"a":1,"a"`: 7, `{"a":1,"a"x`: 7, `{"a":1,"a":x`: 7, `{"a":1,"a","b":1}`: 7,
	} {
		checkFault(t, s, api.ErrExists, at)
	}
	// But what isn't right within it is.
	checkFault(t, `{"a":1,"a`, api.ErrText, 9)
	checkFault(t, "{\"a\":1,\"a\x00\":1}", api.ErrText, 9)
	checkFault(t, `{"a":1,"a\":1}`, api.ErrText, 14)
	checkParse(t, "{\"a\":1,\"A\":2,\"a \":3,\"aa\":4,\"\u00e1\":5,\"a\u0301\":6}", object(names("a", "A", "a ", "aa", "\u00e1", "a\u0301"), number(1), number(2), number(3), number(4), number(5), number(6)))
}

func TestParseOfTheFirstFault(t *testing.T) {
	checkFault(t, `[1.5,01]`, api.ErrForm, 2)
	checkFault(t, `[01,1.5]`, api.ErrText, 1)
	checkFault(t, `[9223372036854775808,1.5]`, api.ErrRange, 1)
	checkFault(t, `{"a":1,"a":1.5}`, api.ErrExists, 7)
	checkFault(t, `{"a":1.5,"a":1}`, api.ErrForm, 6)
	checkFault(t, strings.Repeat("[", 16)+"x[", api.ErrText, 16)
	checkFault(t, strings.Repeat("[", 17)+"x", api.ErrDeep, 16)
	checkFault(t, "x"+strings.Repeat("[", 17), api.ErrText, 0)
}

func TestParseLength(t *testing.T) {
	most := `"` + strings.Repeat("a", api.MaxJSON-2) + `"`
	checkParse(t, most, text(most[1:api.MaxJSON-1]))
	checkParse(t, strings.Repeat(" ", api.MaxJSON-4)+"null", null)
	checkParse(t, "0"+strings.Repeat("\n", api.MaxJSON-1), number(0))
	for _, s := range []string{most + " ", " " + most, strings.Repeat(" ", api.MaxJSON+1), strings.Repeat("x", api.MaxJSON+1), strings.Repeat("[", 1<<20), "1.5" + strings.Repeat(" ", api.MaxJSON)} {
		checkFault(t, s, api.ErrLong, 0)
	}
	checkFault(t, strings.Repeat("x", api.MaxJSON), api.ErrText, 0)
	checkFault(t, strings.Repeat(" ", api.MaxJSON), api.ErrText, api.MaxJSON)
	checkFault(t, most[:api.MaxJSON-1]+"a", api.ErrText, api.MaxJSON)
	checkFault(t, strings.Repeat("9", api.MaxJSON), api.ErrRange, 0)
}

func TestParseOfManyValues(t *testing.T) {
	ones := strings.Repeat("1,", api.MaxItems-2)
	checkParse(t, "["+ones+"1]", array(many(api.MaxItems-1, number(1))...))
	at := 1 + len(ones) + 2
	// Whatever stands there, or nothing at all.
	for _, s := range []string{"1]", "]", "}", ",", ":", "x", "", "01", "1.5", "[", "{", strings.Repeat("[", 20), "\"", "\"\\q", "\x00", "null"} {
		checkFault(t, "["+ones+"1,"+s, api.ErrLong, at)
		checkFault(t, "["+ones+"1, \t"+s, api.ErrLong, at+2)
	}
	// A list that is the last value may be empty.
	checkParse(t, "["+ones+"[]]", array(append(many(api.MaxItems-2, number(1)), array())...))
	checkParse(t, "["+ones+"{ } ]", array(append(many(api.MaxItems-2, number(1)), object(nil))...))
	checkFault(t, "["+ones+"[ 1]]", api.ErrLong, at)
	checkFault(t, "["+ones+"[", api.ErrLong, at-1)
	checkFault(t, "["+ones+"[x", api.ErrLong, at-1)
	checkFault(t, "["+ones+"[[", api.ErrLong, at-1)
	checkFault(t, "["+ones+`{"a" : 1}]`, api.ErrLong, at+5)
	checkFault(t, "["+ones+`{"a":`, api.ErrLong, at+3)
	// A name is no value, so it is looked at first.
	checkFault(t, "["+ones+`{x`, api.ErrText, at-1)
	checkFault(t, "["+ones+`{"a"x`, api.ErrText, at+2)
	checkFault(t, "["+ones+"1x", api.ErrText, at-1)
	checkFault(t, "["+ones+"x,1]", api.ErrText, at-2)
	// Arrays and objects count, and those that are closed too.
	checkParse(t, "["+strings.Repeat("[[]],", 254)+"[[1]]]", array(append(many(254, array(array())), array(array(number(1))))...))
	checkFault(t, "["+strings.Repeat("[[]],", 255)+"[[]]]", api.ErrLong, 1+255*5+1)
	checkParse(t, "["+strings.Repeat(`{"a":{"b":1}},`, 170)+"1]", array(append(many(170, object(names("a"), object(names("b"), number(1)))), number(1))...))
	checkFault(t, "["+strings.Repeat(`{"a":{"b":1}},`, 170)+"1,2]", api.ErrLong, 1+170*14+2)
}

func TestParseDepth(t *testing.T) {
	checkParse(t, strings.Repeat("[", 16)+strings.Repeat("]", 16), arrays(15, array()))
	checkParse(t, strings.Repeat("[", 16)+"1"+strings.Repeat("]", 16), arrays(16, number(1)))
	checkParse(t, strings.Repeat(`{"a":`, 16)+"1"+strings.Repeat("}", 16), objects(16, number(1)))
	checkParse(t, strings.Repeat(`[{"a":`, 8)+"1"+strings.Repeat("}]", 8), array(object(names("a"), array(object(names("a"), array(object(names("a"), array(object(names("a"), array(object(names("a"), array(object(names("a"), array(object(names("a"), array(object(names("a"), number(1))))))))))))))))))
	checkParse(t, "["+strings.Repeat("[],", 100)+"{}]", array(append(many(100, array()), object(nil))...))
	checkFault(t, strings.Repeat("[", 17), api.ErrDeep, 16)
	checkFault(t, strings.Repeat("[", 16)+" {", api.ErrDeep, 17)
	checkFault(t, strings.Repeat("[", 16)+"1,[]", api.ErrDeep, 18)
	checkFault(t, strings.Repeat("[", 16)+"]"+",[[", api.ErrDeep, 19)
	checkFault(t, strings.Repeat(`{"a":`, 16)+`{}`, api.ErrDeep, 80)
	checkFault(t, strings.Repeat(`[{"a":`, 8)+"[", api.ErrDeep, 48)
	checkFault(t, strings.Repeat("[", api.MaxJSON), api.ErrDeep, 16)
}

// P11.2

func TestWriteOfOneValue(t *testing.T) {
	for s, v := range map[string]api.Value{
		"null": null, "false": no, "true": yes, "0": number(0), "-1": number(-1), "1234567890": number(1234567890),
		"9223372036854775807": number(math.MaxInt64), "-9223372036854775808": number(math.MinInt64),
		`""`: text(""), `"a b"`: text("a b"), "[]": array(), "{}": object(nil), "[[],{}]": array(array(), object(nil)),
		`[1,"a",null]`: array(number(1), text("a"), null), `{"b":1,"a":[2],"":{}}`: object(names("b", "a", ""), number(1), array(number(2)), object(nil)),
	} {
		checkWrite(t, v, s)
		checkWrite(t, array(v), "["+s+"]")
		checkWrite(t, array(v, v, v), "["+s+","+s+","+s+"]")
		checkWrite(t, object(names("x", "y"), v, v), `{"x":`+s+`,"y":`+s+"}")
	}
}

func TestWriteOfTexts(t *testing.T) {
	for s, want := range map[string]string{
		`"`: `\"`, `\`: `\\`, "/": "/", "\x00": `\u0000`, "\x01": `\u0001`, "\b": `\u0008`, "\t": `\u0009`, "\n": `\u000a`, "\v": `\u000b`, "\f": `\u000c`, "\r": `\u000d`, "\x0f": `\u000f`, "\x10": `\u0010`, "\x1a": `\u001a`, "\x1f": `\u001f`,
		" ": " ", "\x7f": "\x7f", "\u0080": "\u0080", "é": "é", "\u2028": "\u2028", "<&>": "<&>", "\ufffd": "\ufffd", "\ufeff": "\ufeff", "\U0001f600": "\U0001f600", `\n`: `\\n`, `a"b\c` + "\n": `a\"b\\c\u000a`,
	} {
		checkWrite(t, text(s), `"`+want+`"`)
		checkWrite(t, text("a"+s+"é"+s), `"a`+want+"é"+want+`"`)
		checkWrite(t, object(names(s), text(s)), `{"`+want+`":"`+want+`"}`)
	}
	for c := range 0x20 {
		checkWrite(t, text(string(rune(c))), fmt.Sprintf(`"\u%04x"`, c))
	}
}

// Fields that a kind doesn't need are not looked at.
func TestWriteOfOtherFields(t *testing.T) {
	full := api.Value{N: 7, Text: "\xff", Items: values(api.Value{Kind: 99}).Items, Keys: names("a", "a", "\xff")}
	for kind, want := range map[byte]string{api.JNull: "null", api.JFalse: "false", api.JTrue: "true", api.JNumber: "7"} {
		v := full
		v.Kind = kind
		checkWrite(t, v, want)
	}
	checkWrite(t, api.Value{Kind: api.JString, Text: "a", N: 7, Items: full.Items, Keys: full.Keys}, `"a"`)
	checkWrite(t, api.Value{Kind: api.JArray, Items: []api.Value{no}, Text: "\xff", N: 7, Keys: full.Keys}, "[false]")
	checkWrite(t, api.Value{Kind: api.JObject, Items: []api.Value{no}, Keys: names("b"), Text: "\xff", N: 7}, `{"b":false}`)
}

// wrong: values that have no text, and why.
func wrong() map[api.Errno][]api.Value {
	l := map[api.Errno][]api.Value{}
	for _, s := range []string{"\xff", "a\x80", "\xc3", "\xed\xa0\x80", "\xc0\x80", "\xf4\x90\x80\x80", "é\xe2\x82"} {
		l[api.ErrForm] = append(l[api.ErrForm], text(s), object(names(s), null), object(names("a", s), null, null))
	}
	for _, kind := range []byte{7, 8, 99, 255} {
		l[api.ErrForm] = append(l[api.ErrForm], api.Value{Kind: kind}, api.Value{Kind: kind, N: 1, Text: "a"})
	}
	l[api.ErrForm] = append(l[api.ErrForm], object(names("a")), object(nil, null), object(names("a", "b"), null), object(names("a"), null, null), object(names("a", "a"), null))
	l[api.ErrExists] = []api.Value{object(names("a", "a"), null, null), object(names("a", "b", "a"), null, no, yes), object(names("", ""), null, null), object(names("é", "é"), array(), object(nil))}
	l[api.ErrDeep] = []api.Value{arrays(17, null), arrays(16, array()), arrays(16, object(nil)), objects(17, null), objects(16, array()), arrays(100, null), array(null, arrays(16, null))}
	return l
}

func TestWriteOfNone(t *testing.T) {
	for e, l := range wrong() {
		for _, v := range l {
			checkNoText(t, v, e)
			checkNoText(t, array(v), e)
			checkNoText(t, array(null, v, null), e)
			checkNoText(t, object(names("x"), v), e)
			checkNoText(t, object(names("x", "y"), array(), array(v)), e)
			// However long the rest is.
			checkNoText(t, array(text(strings.Repeat("a", 2*api.MaxJSON)), v), e)
			checkNoText(t, array(v, text(strings.Repeat("a", 2*api.MaxJSON))), e)
		}
	}
}

func TestWriteOfTheFirstThatIsMet(t *testing.T) {
	for e, l := range wrong() {
		for f, m := range wrong() {
			for i := range 3 {
				checkNoText(t, array(l[i%len(l)], m[i%len(m)]), e)
				checkNoText(t, object(names("x", "y"), l[i%len(l)], m[i%len(m)]), e)
				checkNoText(t, object(names("x", "\xff"), m[i%len(m)], null), f)
				checkNoText(t, object(names("x", "x"), m[i%len(m)], null), f)
				// Keys that are too many are met at the beginning, a name that isn't right where it stands.
				checkNoText(t, object(names("x", "y"), m[i%len(m)]), api.ErrForm)
			}
		}
	}
	long := many(api.MaxItems+1, null)
	checkNoText(t, array(append(many(3, null), arrays(17, null), array(long...))...), api.ErrDeep)
	checkNoText(t, array(array(long...), arrays(17, null)), api.ErrLong)
	// Of one array or object too deep goes ahead of the Keys.
	checkNoText(t, arrays(16, object(names("a"))), api.ErrDeep)
	checkNoText(t, arrays(15, object(names("a"), object(names("b")))), api.ErrDeep)
	checkNoText(t, arrays(14, object(names("a"), object(names("b")))), api.ErrForm)
	checkNoText(t, arrays(15, object(names("a", "b"), object(names("b")))), api.ErrForm)
	checkNoText(t, arrays(16, api.Value{Kind: 7}), api.ErrForm)
	checkNoText(t, object(names("a", "a"), null, api.Value{Kind: 7}), api.ErrExists)
	checkNoText(t, object(names("a", "a"), api.Value{Kind: 7}, null), api.ErrForm)
	checkNoText(t, object(names("a", "\xff", "a"), null, null, null), api.ErrForm)
	checkNoText(t, object(names("a", "a", "\xff"), null, null, null), api.ErrExists)
	checkNoText(t, object(names("\xff", "\xff"), null, null), api.ErrForm)
}

func TestWriteOfManyValues(t *testing.T) {
	l := many(api.MaxItems-1, null)
	checkWrite(t, array(l...), "["+strings.Repeat("null,", api.MaxItems-2)+"null]")
	checkNoText(t, array(many(api.MaxItems, null)...), api.ErrLong)
	checkNoText(t, array(many(1<<20, null)...), api.ErrLong)
	checkNoText(t, array(array(many(255, null)...), array(many(255, null)...)), api.ErrLong)
	checkNoText(t, array(many(257, array(null))...), api.ErrLong)
	// The one that is too many goes ahead of what is wrong in it.
	for e, w := range wrong() {
		for _, v := range w {
			checkNoText(t, array(append(many(api.MaxItems-1, null), v)...), api.ErrLong)
			if e == api.ErrDeep || len(v.Items) > 0 {
				continue
			}
			checkNoText(t, array(append(many(api.MaxItems-2, null), v)...), e)
		}
	}
	// A name stands ahead of its value.
	checkNoText(t, array(append(many(api.MaxItems-2, null), object(names("\xff"), null))...), api.ErrForm)
	checkNoText(t, array(append(many(api.MaxItems-3, null), object(names("a", "a"), null, null))...), api.ErrExists)
	checkNoText(t, array(append(many(api.MaxItems-2, null), object(names("a", "a"), null, null))...), api.ErrLong)
	checkNoText(t, array(append(many(api.MaxItems-1, null), arrays(17, null))...), api.ErrLong)
}

func TestWriteLength(t *testing.T) {
	for _, part := range []string{"a", "é", "\"", "\\", "\n", "\U0001f600"} {
		one, _ := json.Write(text(part))
		size := len(one) - 2
		n := (api.MaxJSON - 2) / size
		s := strings.Repeat(part, n) + strings.Repeat("a", api.MaxJSON-2-n*size)
		if got, e := json.Write(text(s)); len(got) != api.MaxJSON || e != api.OK {
			t.Errorf("Write of many %q: %d bytes, %d", part, len(got), e)
		}
		checkNoText(t, text(s+"a"), api.ErrLong)
		checkNoText(t, text("a"+s), api.ErrLong)
		checkNoText(t, text(strings.Repeat(part, n+1)), api.ErrLong)
		checkNoText(t, array(text(s)), api.ErrLong)
	}
	whole := object(names(strings.Repeat("k", 30000)), text(strings.Repeat("v", api.MaxJSON-30000-7)))
	if got, e := json.Write(whole); len(got) != api.MaxJSON || e != api.OK {
		t.Errorf("Write of an object: %d bytes, %d", len(got), e)
	}
	whole.Keys[0] += "k"
	checkNoText(t, whole, api.ErrLong)
	checkNoText(t, object(names(strings.Repeat("k", api.MaxJSON)), null), api.ErrLong)
	checkNoText(t, text(strings.Repeat("\n", 1<<24)), api.ErrLong)
	// What would fit behind what doesn't isn't taken.
	checkNoText(t, array(text(strings.Repeat("\n", 1<<14)), null), api.ErrLong)
	checkNoText(t, array(text(strings.Repeat("a", api.MaxJSON-5)), null), api.ErrLong)
	checkWrite(t, array(text(strings.Repeat("a", api.MaxJSON-6)), number(1)), `["`+strings.Repeat("a", api.MaxJSON-6)+`",1]`)
}

// P11.3

func TestSame(t *testing.T) {
	base := func() api.Value {
		return array(object(names("a", "b"), number(5), array(text("x"), null)), yes, no, array(), object(nil), api.Value{Kind: 9, N: 1, Text: "t", Keys: names("k")})
	}
	if !json.Same(base(), base()) || !json.Same(api.Value{}, null) {
		t.Error("Same of the same")
	}
	changes := []func(*api.Value){
		func(v *api.Value) { v.Kind++ },
		func(v *api.Value) { v.N++ },
		func(v *api.Value) { v.N ^= math.MinInt64 },
		func(v *api.Value) { v.Text += "x" },
		func(v *api.Value) { v.Items = append(v.Items, null) },
		func(v *api.Value) { v.Items = append([]api.Value{number(1)}, v.Items...) },
		func(v *api.Value) { v.Keys = append(v.Keys, "") },
		func(v *api.Value) { v.Keys = append([]string{"z"}, v.Keys...) },
	}
	places := []func(*api.Value) *api.Value{
		func(v *api.Value) *api.Value { return v },
		func(v *api.Value) *api.Value { return &v.Items[0] },
		func(v *api.Value) *api.Value { return &v.Items[0].Items[1] },
		func(v *api.Value) *api.Value { return &v.Items[0].Items[1].Items[0] },
		func(v *api.Value) *api.Value { return &v.Items[4] },
		func(v *api.Value) *api.Value { return &v.Items[5] },
	}
	for i, place := range places {
		for j, change := range changes {
			v := base()
			change(place(&v))
			if json.Same(v, base()) || json.Same(base(), v) {
				t.Errorf("Same behind change %d at %d", j, i)
			}
			if !json.Same(v, v) {
				t.Errorf("not the same as itself: %v", v)
			}
		}
	}
	a, b := number(1), number(2)
	for _, p := range [][2]api.Value{
		{array(a, b), array(b, a)}, {array(a, b), array(a)}, {array(a, array(b)), array(array(a), b)}, {array(), object(nil)}, {text(""), null}, {yes, no}, {number(0), null},
		{object(names("a", "b"), a, b), object(names("b", "a"), b, a)}, {object(names("a", "b"), a, b), object(names("a", "b"), b, a)}, {object(names("a"), a), object(names("b"), a)}, {object(names("ab", ""), a, a), object(names("a", "b"), a, a)},
	} {
		if json.Same(p[0], p[1]) || json.Same(p[1], p[0]) {
			t.Errorf("Same(%v, %v)", p[0], p[1])
		}
	}
}

func TestNilAndEmptyListsAreTheSame(t *testing.T) {
	a, b := object(nil), api.Value{Kind: api.JObject, Items: []api.Value{}, Keys: []string{}}
	if !json.Same(a, b) || !json.Same(array(b), array(a)) {
		t.Error("Same")
	}
	checkWrite(t, array(a, b), "[{},{}]")
	checkWrite(t, api.Value{Kind: api.JArray, Items: []api.Value{}}, "[]")
}

// P1 and memory

func TestDeeplyNested(t *testing.T) {
	a, b := arrays(1<<16-1, number(1)), arrays(1<<16-1, number(2))
	checkNoText(t, a, api.ErrDeep)
	if !json.Same(a, a) || json.Same(a, b) {
		t.Error("Same of deep values")
	}
	c := objects(1<<16-1, null)
	checkNoText(t, c, api.ErrDeep)
	if !json.Same(c, c) {
		t.Error("Same of a deep value")
	}
}

// A caller may write over a text's bytes behind the call.
func TestTextsAreNotKept(t *testing.T) {
	p := []byte(`{"name":"plain","a\n":["b\u00e9"]}`)
	v, _, e := json.Parse(unsafe.String(&p[0], len(p)))
	for i := range p {
		p[i] = 'x'
	}
	want := object(names("name", "a\n"), text("plain"), array(text("bé")))
	if e != api.OK || !equal(v, want) {
		t.Errorf("Parse = %v, %d", v, e)
	}
	p = []byte("plain")
	s, e := json.Write(text(unsafe.String(&p[0], len(p))))
	p[0] = 'x'
	if s != `"plain"` || e != api.OK {
		t.Errorf("Write = %q, %d", s, e)
	}
}

func TestWhatIsHandedInStays(t *testing.T) {
	items := append(make([]api.Value, 0, 8), text("a"), array(number(1)))
	keys := append(make([]string, 0, 8), "x", "y")
	items[:8][5], keys[:8][5] = text("spare"), "spare"
	v := object(keys, items...)
	checkWrite(t, v, `{"x":"a","y":[1]}`)
	json.Same(v, v)
	if !equal(v, object(names("x", "y"), text("a"), array(number(1)))) || items[:8][5].Text != "spare" || keys[:8][5] != "spare" || keys[:8][2] != "" || items[:8][2].Kind != api.JNull {
		t.Errorf("the value is %v", v)
	}
}

func TestAnswersShareNothing(t *testing.T) {
	const s = `[[1,2,3],{"a":[4],"b":5,"c":6},[]]`
	p, _, _ := json.Parse(s)
	q, _, _ := json.Parse(s)
	spoil(&p)
	if again, _, _ := json.Parse(s); !equal(q, again) || equal(p, q) {
		t.Errorf("Parse = %v", q)
	}
	// One list can grow without another's being written over.
	for i := range q.Items {
		q.Items[i].Items = append(q.Items[i].Items, text("x"), text("x"))
		q.Items[i].Keys = append(q.Items[i].Keys, "x", "x")
	}
	x := text("x")
	want := array(array(number(1), number(2), number(3), x, x), object(names("a", "b", "c", "x", "x"), array(number(4)), number(5), number(6), x, x), array(x, x))
	want.Items[0].Keys, want.Items[2].Keys = names("x", "x"), names("x", "x")
	if !equal(q, want) {
		t.Errorf("the lists are %v", q)
	}
}

// spoil: writes over all of a value, spare room too.
func spoil(v *api.Value) {
	for i := range v.Items {
		spoil(&v.Items[i])
	}
	items, keys := v.Items[:cap(v.Items)], v.Keys[:cap(v.Keys)]
	for i := range items {
		items[i] = api.Value{Kind: 99}
	}
	for i := range keys {
		keys[i] = "spoilt"
	}
	v.Kind = 99
}
