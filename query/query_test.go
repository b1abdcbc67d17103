package query_test

import (
	"fmt"
	"math"
	"reflect"
	"strings"
	"testing"

	"fascine/api"
	"fascine/query"
)

// The signatures that the chapter lists.
var (
	_ func(string) (api.Query, int, api.Errno) = query.Parse
	_ func(api.Query) (string, api.Errno)      = query.Text
	_ func(a, b api.Query) bool                = query.Same
)

func all() api.Query                  { return api.Query{Kind: api.QAll} }
func word(s string) api.Query         { return api.Query{Kind: api.QWord, Text: s} }
func pair(s string) api.Query         { return api.Query{Kind: api.QPair, Text: s} }
func after(n int64) api.Query         { return api.Query{Kind: api.QAfter, N: n} }
func before(n int64) api.Query        { return api.Query{Kind: api.QBefore, N: n} }
func not(q api.Query) api.Query       { return api.Query{Kind: api.QNot, Kids: []api.Query{q}} }
func and(kids ...api.Query) api.Query { return api.Query{Kind: api.QAnd, Kids: kids} }
func or(kids ...api.Query) api.Query  { return api.Query{Kind: api.QOr, Kids: kids} }
func nots(n int, q api.Query) api.Query {
	for range n {
		q = not(q)
	}
	return q
}

func checkParse(t *testing.T, s string, want api.Query) {
	t.Helper()
	q, at, e := query.Parse(s)
	if e != api.OK || at != 0 || !equal(q, want) {
		t.Errorf("Parse(%.80q) = %.200v, %d, %d, want %.200v", s, q, at, e, want)
	}
}

func checkFault(t *testing.T, s string, e api.Errno, at int) {
	t.Helper()
	q, gotAt, gotE := query.Parse(s)
	if gotE != e || gotAt != at || !equal(q, api.Query{}) {
		t.Errorf("Parse(%.80q) = %.200v, %d, %d, want at %d, %d", s, q, gotAt, gotE, at, e)
	}
}

// checkText: there is a text, not too long, the same each time, and Parse reads it as the query.
func checkText(t *testing.T, q api.Query) string {
	t.Helper()
	s, e := query.Text(q)
	if e != api.OK || len(s) > api.MaxQuery {
		t.Errorf("Text(%.200v) = %.80q of %d bytes, %d", q, s, len(s), e)
		return ""
	}
	if again, _ := query.Text(q); again != s {
		t.Errorf("Text(%.200v) = %q, then %q", q, s, again)
	}
	checkParse(t, s, q)
	return s
}

func checkNoText(t *testing.T, q api.Query, e api.Errno) {
	t.Helper()
	if s, got := query.Text(q); s != "" || got != e {
		t.Errorf("Text(%.200v) = %.80q, %d, want %d", q, s, got, e)
	}
}

// equal: Same told in another way.
func equal(a, b api.Query) bool {
	return reflect.DeepEqual(plain(a), plain(b))
}

// plain: a query without empty lists.
func plain(q api.Query) api.Query {
	kids := q.Kids
	q.Kids = nil
	for _, k := range kids {
		q.Kids = append(q.Kids, plain(k))
	}
	return q
}

// P6.1

func TestParseOfTheChapter(t *testing.T) {
	checkParse(t, "red OR blue k=v", or(word("red"), and(word("blue"), pair("k=v"))))
	checkParse(t, "NOT (a b)", not(and(word("a"), word("b"))))
	checkParse(t, ">5", after(5))
	checkFault(t, "", api.ErrText, 0)
	checkFault(t, "a OR", api.ErrText, 4)
	checkFault(t, "a)b", api.ErrText, 1)
	checkFault(t, ">05", api.ErrText, 0)
	checkFault(t, "Red", api.ErrText, 0)
}

func TestParseOfOneWord(t *testing.T) {
	most := strings.Repeat("m", api.MaxWord)
	for s, q := range map[string]api.Query{
		"*": all(), "a": word("a"), "9": word("9"), "é": word("é"), "É": word("É"), "or": word("or"), "not": word("not"), most: word(most),
		"a=b": pair("a=b"), "1=é": pair("1=é"), most + "=" + most: pair(most + "=" + most), "or=not": pair("or=not"),
		">0": after(0), "<0": before(0), ">-1": after(-1), "<10": before(10), "<-20": before(-20),
		">9223372036854775807": after(math.MaxInt64), "<-9223372036854775808": before(math.MinInt64),
	} {
		for _, form := range []string{"%s", " %s", "%s ", "   %s   ", "(%s)", "((%s))", " ( ( %s ) ) "} {
			checkParse(t, fmt.Sprintf(form, s), q)
		}
		checkParse(t, "NOT "+s, not(q))
		checkParse(t, "NOT("+s+")", not(q))
		checkParse(t, s+" "+s, and(q, q))
		checkParse(t, s+"("+s+")"+s, and(q, q, q))
		checkParse(t, s+" OR "+s, or(q, q))
	}
}

func TestParseOfNoWord(t *testing.T) {
	most := strings.Repeat("m", api.MaxWord)
	for _, s := range []string{
		"A", "aB", "-", "a-b", "a.", "\t", "a\tb", "a\n", "\x00", "\xff", "a\xff", "\xc3", most + "m", "\u00e9\xa9",
		"**", "*a", "a*", "=", "a=", "=b", "a==b", "a=b=c", "A=b", "a=B", "a=" + most + "m", "Or", "Not", "oR", "ORa", "NOTa", "OR=a", "aOR", "aNOT", "AND",
		">", "<", ">>5", "><", "<>5", ">a", "=5", ">=5", ">5a", ">5.0", ">1e3", ">0x1", ">1_000", ">0b1", ">0o7", ">'a'", ">\u0665",
		">+5", ">00", ">05", ">-05", ">-", ">--5", ">-0", ">+0", "<007", "5>", "a>5", ">5<6", "*=a",
		">9223372036854775808", "<-9223372036854775809", ">99999999999999999999999999", "[a]", "{a}", "\"a\"",
	} {
		checkFault(t, s, api.ErrText, 0)
		checkFault(t, "  "+s, api.ErrText, 2)
		checkFault(t, "a OR "+s+" )", api.ErrText, 5)
		checkFault(t, "NOT "+s+" Red", api.ErrText, 4)
		checkFault(t, "(b("+s+")", api.ErrText, 3)
		checkFault(t, "a "+s+"(", api.ErrText, 2)
		checkFault(t, ">5("+s, api.ErrText, 3)
	}
	for _, s := range []string{"OR", "OR a", "OR OR", "OR(a)", "OR)"} {
		checkFault(t, s, api.ErrText, 0)
		checkFault(t, "( "+s, api.ErrText, 2)
		checkFault(t, "NOT "+s, api.ErrText, 4)
		checkFault(t, "a OR  "+s, api.ErrText, 6)
	}
}

func TestParseOfSeveral(t *testing.T) {
	a, b, c, d := word("a"), word("b"), word("c"), word("d")
	for s, q := range map[string]api.Query{
		"a b":                    and(a, b),
		"a  b c":                 and(a, b, c),
		"a OR b OR c":            or(a, b, c),
		"a OR b c OR d":          or(a, and(b, c), d),
		"a b OR c d":             or(and(a, b), and(c, d)),
		"(a OR b) c":             and(or(a, b), c),
		"(a OR b)(c OR d)":       and(or(a, b), or(c, d)),
		"a(b)c":                  and(a, b, c),
		"(a b) c":                and(and(a, b), c),
		"a (b c)":                and(a, and(b, c)),
		"(a OR b) OR c":          or(or(a, b), c),
		"a OR(b OR c)":           or(a, or(b, c)),
		"(a)OR(b)":               or(a, b),
		"((a b))":                and(a, b),
		"NOT a b":                and(not(a), b),
		"a NOT b":                and(a, not(b)),
		"NOT a OR b":             or(not(a), b),
		"NOT NOT a":              not(not(a)),
		"NOT(NOT(a))":            not(not(a)),
		"NOT (a OR b) c":         and(not(or(a, b)), c),
		"(NOT a)b":               and(not(a), b),
		"NOT(a)NOT(b)":           and(not(a), not(b)),
		" ( a  OR  b )  NOT  c ": and(or(a, b), not(c)),
		"a or b not c":           and(a, word("or"), b, word("not"), c),
	} {
		checkParse(t, s, q)
	}
}

func TestParseWhereAWordMustStand(t *testing.T) {
	for s, at := range map[string]int{
		" ": 1, "   ": 3, "NOT": 3, "NOT ": 4, "NOT NOT": 7, "(": 1, "( ": 2, "a OR ": 5, "a OR   ": 7, "a OR NOT": 8, "(a OR": 5, "a (": 3, "NOT(": 4,
		")": 0, "  )": 2, "()": 1, "( )": 2, "a OR )": 5, "(a OR )": 6, "(a OR)": 5, "NOT )": 4, "(NOT)": 4, "a ()": 3, "()a": 1, "a OR ()": 6,
	} {
		checkFault(t, s, api.ErrText, at)
	}
}

func TestParseOfBrackets(t *testing.T) {
	for s, at := range map[string]int{
		"a)": 1, "a )": 2, "a b)": 3, "(a))": 3, "(a) )": 4, "a OR b) Red": 6, "a)(": 1, "NOT a)": 5, "a) OR": 1, // behind the whole
		"(a": 2, "(a ": 3, "((a)": 4, "((a) ": 5, "(a OR b": 7, "a (b": 4, "NOT (a": 6, "(a b OR c d": 11, // where a ) must stand
	} {
		checkFault(t, s, api.ErrText, at)
	}
}

func TestParseDepth(t *testing.T) {
	for front, n := range map[string]int{"NOT ": 1, "(": 1, "NOT(": 2, "(NOT ": 2, "a (": 1, "a OR (": 1, "NOT  NOT ": 2} {
		// At MaxDepth, of all that stands in front.
		deep := strings.Repeat(front, api.MaxDepth/n)
		end := strings.Repeat(")", strings.Count(deep, "("))
		if _, at, e := query.Parse(deep + "a" + end); e != api.OK || at != 0 {
			t.Errorf("Parse(%q) at the limit: %d at %d", deep, e, at)
		}
		// Beside them, when they are open no more, others may be.
		if _, at, e := query.Parse(deep + "a" + end + " NOT a"); e != api.OK || at != 0 {
			t.Errorf("Parse(%q and more): %d at %d", deep, e, at)
		}
		checkFault(t, deep+"NOT a"+end, api.ErrDeep, len(deep))
		checkFault(t, deep+"  NOT", api.ErrDeep, len(deep)+2)
		checkFault(t, deep+"(", api.ErrDeep, len(deep))
		checkFault(t, deep+" (a)"+end, api.ErrDeep, len(deep)+1)
		// What stands further left goes first.
		checkFault(t, deep+"Red NOT a", api.ErrText, len(deep))
		checkFault(t, deep, api.ErrText, len(deep))
		checkFault(t, deep+")", api.ErrText, len(deep))
		checkFault(t, deep+"NOT Red", api.ErrDeep, len(deep))
	}
	checkParse(t, strings.Repeat("NOT ", 16)+"a", nots(16, word("a")))
	checkFault(t, strings.Repeat("NOT ", 17)+"a", api.ErrDeep, 64)
	checkFault(t, strings.Repeat("(", 17)+"a", api.ErrDeep, 16)
	checkFault(t, strings.Repeat("(", 512), api.ErrDeep, 16)
	// A NOT is open up to the end of what it stands ahead of, a bracket's whole.
	fifteen := strings.Repeat("(", 15)
	checkFault(t, "NOT ("+strings.Repeat("(", 14)+"a NOT b", api.ErrDeep, 21)
	if _, _, e := query.Parse(fifteen + "NOT a NOT b NOT c" + strings.Repeat(")", 15)); e != api.OK {
		t.Errorf("NOTs beside one another: %d", e)
	}
	if _, _, e := query.Parse(strings.TrimSpace(strings.Repeat("NOT a (b) ", 51))); e != api.OK {
		t.Errorf("brackets beside one another: %d", e)
	}
}

func TestParseLength(t *testing.T) {
	most := strings.Repeat("a ", 255) + "bc"
	q, at, e := query.Parse(most)
	if len(most) != api.MaxQuery || e != api.OK || at != 0 || len(q.Kids) != 256 || q.Kids[255].Text != "bc" {
		t.Errorf("Parse of %d bytes: %d kids, %d, %d", len(most), len(q.Kids), at, e)
	}
	checkFault(t, most+"d", api.ErrLong, 0)
	checkFault(t, most+" ", api.ErrLong, 0)
	checkFault(t, strings.Repeat(" ", 512), api.ErrText, 512)
	checkParse(t, strings.Repeat(" ", 511)+"a", word("a"))
	checkFault(t, strings.Repeat(" ", 513), api.ErrLong, 0)
	checkFault(t, strings.Repeat("(", 513), api.ErrLong, 0)
	checkFault(t, strings.Repeat("Red", 1<<20), api.ErrLong, 0)
	checkFault(t, strings.Repeat("a", 512), api.ErrText, 0)
}

// P6.2

func TestText(t *testing.T) {
	a, b, c := word("a"), word("b"), pair("c=d")
	for _, q := range []api.Query{
		all(), a, c, after(0), after(math.MaxInt64), after(math.MinInt64), before(-5), before(7), word("or"), word("É9"),
		not(all()), not(after(1)), not(not(c)), not(and(a, b)), not(or(a, b)), not(not(or(a, not(b)))),
		and(a, a), and(a, b, c, all()), and(not(a), not(b)), and(and(a, b), c), and(a, and(b, c)), and(or(a, b), c), and(a, or(b, c)), and(not(and(a, b)), not(or(a, b))),
		or(a, a), or(a, b, c), or(and(a, b), c), or(a, and(b, c)), or(or(a, b), c), or(a, or(b, c)), or(not(a), not(or(a, b))), or(and(or(a, b), c), and(or(b, c), or(c, a))),
	} {
		checkText(t, q)
	}
}

func TestTextStandsBetweenTheKids(t *testing.T) {
	a, b, c := word("a"), word("b"), pair("c=d")
	for _, q := range []api.Query{or(a, b, c), or(and(a, b), c), or(not(a), or(b, c))} {
		if s := checkText(t, q); strings.Count(s, "OR") != ors(q) {
			t.Errorf("Text(%v) = %q", q, s)
		}
	}
	for _, q := range []api.Query{and(a, b, c), and(not(a), b), and(a, and(b, c)), not(and(a, b))} {
		if s := checkText(t, q); strings.Contains(s, "OR") {
			t.Errorf("Text(%v) = %q", q, s)
		}
	}
	// Between two kids of a QAnd stand blanks, a bracket's side too.
	if s := checkText(t, and(and(a, b), and(a, b))); !strings.Contains(s, ") (") {
		t.Errorf("Text of two QAnds = %q", s)
	}
}

// ors: how many ORs stand in the text of a query.
func ors(q api.Query) int {
	n := 0
	if q.Kind == api.QOr {
		n = len(q.Kids) - 1
	}
	for _, k := range q.Kids {
		n += ors(k)
	}
	return n
}

// wrong: queries that no text asks.
func wrong() []api.Query {
	a := word("a")
	most := strings.Repeat("m", api.MaxWord)
	l := []api.Query{
		{Kind: api.QAll, Text: "*"}, {Kind: api.QAll, Text: "a"}, {Kind: api.QAll, N: 1}, {Kind: api.QAll, Kids: []api.Query{a}},
		{Kind: api.QWord, Text: "a", N: 1}, {Kind: api.QWord, Text: "a", Kids: []api.Query{a}},
		{Kind: api.QPair, Text: "a=b", N: -1}, {Kind: api.QPair, Text: "a=b", Kids: []api.Query{a}},
		{Kind: api.QAfter, N: 1, Text: "1"}, {Kind: api.QAfter, Kids: []api.Query{a}},
		{Kind: api.QBefore, N: 1, Text: "1"}, {Kind: api.QBefore, Kids: []api.Query{a}},
		{Kind: api.QNot}, {Kind: api.QNot, Kids: []api.Query{a, a}}, {Kind: api.QNot, Kids: []api.Query{a}, Text: "NOT"}, {Kind: api.QNot, Kids: []api.Query{a}, N: 1},
		{Kind: 8}, {Kind: 255}, {Kind: 8, Text: "a"}, {Kind: 9, Kids: []api.Query{a, a}},
	}
	for _, kind := range []byte{api.QAnd, api.QOr} {
		l = append(l, api.Query{Kind: kind}, api.Query{Kind: kind, Kids: []api.Query{a}},
			api.Query{Kind: kind, Kids: []api.Query{a, a}, Text: "x"}, api.Query{Kind: kind, Kids: []api.Query{a, a}, N: 1})
	}
	for _, s := range []string{"", "A", "a b", " a", "a ", "(a)", "*", "OR", "NOT", "a=b", ">5", "a-b", "\xff", most + "m", strings.Repeat("m", 600)} {
		l = append(l, word(s))
	}
	for _, s := range []string{"", "a", "A=b", "a=B", "a==b", "a=b=c", "a= b", "a=", "=b", "a=" + most + "m", "a=b c", "\xff=a"} {
		l = append(l, pair(s))
	}
	return l
}

func TestTextOfNone(t *testing.T) {
	a := word("a")
	var many []api.Query
	for range 600 {
		many = append(many, a)
	}
	for _, q := range wrong() {
		checkNoText(t, q, api.ErrForm)
		checkNoText(t, not(q), api.ErrForm)
		checkNoText(t, and(a, q), api.ErrForm)
		checkNoText(t, or(q, a), api.ErrForm)
		checkNoText(t, or(a, and(a, or(a, not(q)))), api.ErrForm)
		// There is none, however long and deep the rest would be.
		checkNoText(t, and(append(many[:600:600], q)...), api.ErrForm)
		checkNoText(t, nots(20, q), api.ErrForm)
		checkNoText(t, nots(2000, q), api.ErrForm)
	}
}

func TestTextLength(t *testing.T) {
	// Queries whose texts are as short as can be with these lengths, whichever stands.
	list := func(n int, last string) api.Query {
		var kids []api.Query
		for range n {
			kids = append(kids, word("a"))
		}
		return and(append(kids, word(last))...)
	}
	if s := checkText(t, list(255, "bc")); len(s) != 512 {
		t.Errorf("a text of %d bytes", len(s))
	}
	checkText(t, list(255, "b"))
	checkNoText(t, list(255, "bcd"), api.ErrLong)
	checkNoText(t, list(256, "b"), api.ErrLong)
	checkNoText(t, list(100000, "b"), api.ErrLong)
	checkNoText(t, or(list(128, "b"), list(128, "b")), api.ErrLong)
	checkNoText(t, not(list(255, "bc")), api.ErrLong)
	checkNoText(t, nots(129, word("a")), api.ErrLong)
	long := list(300, "b")
	// Too long goes ahead of too deep, and of what stands behind.
	checkNoText(t, nots(20, long), api.ErrLong)
	checkNoText(t, and(nots(20, word("a")), long), api.ErrLong)
	checkNoText(t, and(long, nots(20, word("a"))), api.ErrLong)
}

func TestTextDepth(t *testing.T) {
	a := word("a")
	checkText(t, nots(16, a))
	checkNoText(t, nots(17, a), api.ErrDeep)
	checkNoText(t, nots(100, a), api.ErrDeep)
	checkText(t, nots(15, or(a, a)))
	checkText(t, nots(15, and(a, a)))
	checkNoText(t, nots(16, or(a, a)), api.ErrDeep)
	checkNoText(t, nots(16, and(a, a)), api.ErrDeep)
	checkText(t, and(nots(16, a), nots(16, a)))
	checkText(t, or(nots(16, a), and(nots(16, a), nots(16, a))))
	checkText(t, or(a, and(a, nots(15, or(a, a)))))
	checkNoText(t, and(a, nots(17, a), a), api.ErrDeep)
	// Each of these needs one bracket more than what it is made of.
	for _, step := range []func(api.Query) api.Query{
		func(q api.Query) api.Query { return and(a, q) },
		func(q api.Query) api.Query { return or(q, a) },
		func(q api.Query) api.Query { return or(a, and(a, q)) },
	} {
		q := or(a, a)
		for range 16 {
			q = step(q)
			checkText(t, q)
		}
		checkNoText(t, step(q), api.ErrDeep)
		checkNoText(t, not(q), api.ErrDeep)
		checkNoText(t, and(a, q), api.ErrDeep)
	}
}

// Of what is read from a text of half the length there is a text, however tightly that was written.
func TestTextOfHalfTheLength(t *testing.T) {
	check := func(s string) {
		t.Helper()
		q, at, e := query.Parse(s)
		if e != api.OK || len(s) > api.MaxQuery/2 {
			t.Errorf("Parse(%q) of %d bytes: %d at %d", s, len(s), e, at)
		}
		checkText(t, q)
	}
	for _, part := range []string{"(a b)", "(a OR b)", "NOT(a b)", "a(b c)", "(a b)OR(NOT a)", "(a OR NOT(a b))"} {
		for _, between := range []string{"", " ", "OR ", " OR ", "OR(a b)", "OR NOT "} {
			s := part
			for len(s)+len(between)+len(part) <= api.MaxQuery/2 {
				s += between + part
			}
			check(s)
		}
	}
	check(strings.Repeat("a ", 128))
	check(strings.Repeat("a OR ", 50) + "a")
	for _, front := range []string{"a(", "NOT(", "(NOT ", "a OR(", "a(a OR ", "NOT NOT("} {
		n := strings.Count(front, "(") + strings.Count(front, "NOT")
		check(strings.Repeat(front, 16/n) + "a" + strings.Repeat(")", 16/n))
	}
	check(strings.Repeat("a(b OR ", 16) + "c d" + strings.Repeat(")", 16))
}

// P6.3

func TestSame(t *testing.T) {
	base := func() api.Query { return or(and(word("a"), pair("k=v")), not(after(5)), before(5), all()) }
	if !query.Same(base(), base()) || !query.Same(api.Query{}, api.Query{}) || !query.Same(all(), api.Query{}) {
		t.Error("Same of the same")
	}
	changes := []func(*api.Query){
		func(q *api.Query) { q.Kind++ },
		func(q *api.Query) { q.Text += "x" },
		func(q *api.Query) { q.N ^= math.MinInt64 },
		func(q *api.Query) { q.N++ },
		func(q *api.Query) { q.Kids = append(q.Kids, all()) },
		func(q *api.Query) { q.Kids = append([]api.Query{word("a")}, q.Kids...) },
	}
	places := []func(*api.Query) *api.Query{
		func(q *api.Query) *api.Query { return q },
		func(q *api.Query) *api.Query { return &q.Kids[0] },
		func(q *api.Query) *api.Query { return &q.Kids[3] },
		func(q *api.Query) *api.Query { return &q.Kids[0].Kids[1] },
		func(q *api.Query) *api.Query { return &q.Kids[1].Kids[0] },
	}
	for i, place := range places {
		for j, change := range changes {
			q := base()
			change(place(&q))
			if query.Same(q, base()) || query.Same(base(), q) {
				t.Errorf("Same behind change %d at %d", j, i)
			}
			if !query.Same(q, q) {
				t.Errorf("not the same as itself: %v", q)
			}
		}
	}
	a, b := word("a"), word("b")
	if query.Same(and(a, b), and(b, a)) || query.Same(and(a, b), and(a)) || query.Same(and(a), and(a, b)) || query.Same(and(a, and(b, a)), and(and(a, b), a)) {
		t.Error("Same of other kids")
	}
	// Fields count that the kind doesn't need, and kinds that there are not.
	if query.Same(api.Query{N: 1}, api.Query{}) || query.Same(api.Query{Kind: 9}, api.Query{Kind: 10}) || !query.Same(api.Query{Kind: 9}, api.Query{Kind: 9}) {
		t.Error("Same of what no text asks")
	}
}

func TestNilAndEmptyKidsAreTheSame(t *testing.T) {
	a, b := word("a"), word("a")
	b.Kids = []api.Query{}
	if !query.Same(a, b) || !query.Same(not(b), not(a)) {
		t.Error("Same")
	}
	s, e := query.Text(and(a, b))
	r, f := query.Text(and(b, a))
	if s != r || e != api.OK || f != api.OK {
		t.Errorf("Text = %q, %d and %q, %d", s, e, r, f)
	}
	checkNoText(t, api.Query{Kind: api.QAnd, Kids: []api.Query{}}, api.ErrForm)
}

// P1 and memory

func TestDeeplyNested(t *testing.T) {
	a, b := nots(1<<16-1, word("a")), nots(1<<16-1, word("b"))
	checkNoText(t, a, api.ErrLong)
	if !query.Same(a, a) || query.Same(a, b) {
		t.Error("Same of deep queries")
	}
	q := word("a")
	for range 1<<16 - 1 {
		q = and(q, word("b"))
	}
	checkNoText(t, q, api.ErrLong)
	if !query.Same(q, q) {
		t.Error("Same of a deep query")
	}
}

func TestWhatIsHandedInStays(t *testing.T) {
	kids := append(make([]api.Query, 0, 8), word("a"), or(word("b"), word("c")))
	spare := kids[:8]
	spare[5] = word("spare")
	q := api.Query{Kind: api.QAnd, Kids: kids}
	checkText(t, q)
	query.Same(q, q)
	if !equal(q, and(word("a"), or(word("b"), word("c")))) || spare[5].Text != "spare" || spare[2].Kind != api.QAll || spare[2].Kids != nil {
		t.Errorf("the query is %v", spare)
	}
}

func TestAnswersShareNothing(t *testing.T) {
	const s = "a b c OR (d e) OR NOT f"
	p, _, _ := query.Parse(s)
	q, _, _ := query.Parse(s)
	spoil(&p)
	if again, _, _ := query.Parse(s); !equal(q, again) || equal(p, q) {
		t.Errorf("Parse = %v", q)
	}
	// The kids of one list can grow without another's being written over.
	l := q.Kids[0].Kids
	l = append(l, word("x"))
	if l[3].Text != "x" || q.Kids[1].Kids[0].Text != "d" || q.Kids[2].Kids[0].Text != "f" {
		t.Errorf("the kids are %v", q)
	}
}

// spoil: writes over all of a query, spare room too.
func spoil(q *api.Query) {
	for i := range q.Kids {
		spoil(&q.Kids[i])
	}
	all := q.Kids[:cap(q.Kids)]
	for i := range all {
		all[i] = api.Query{Kind: 99}
	}
	q.Kind = 99
}
