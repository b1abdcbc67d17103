package match_test

import (
	"math"
	"slices"
	"strings"
	"testing"

	"fascine/api"
	"fascine/match"
	"fascine/query"
)

// The signatures that the chapter lists.
var (
	_ func(api.Doc) bool                   = match.Form
	_ func(api.Query, api.Doc) bool        = match.Has
	_ func(a, b api.Doc) int               = match.Order
	_ func(api.Query, []api.Doc) []api.Doc = match.Find
)

func all() api.Query                  { return api.Query{Kind: api.QAll} }
func word(s string) api.Query         { return api.Query{Kind: api.QWord, Text: s} }
func pair(s string) api.Query         { return api.Query{Kind: api.QPair, Text: s} }
func after(n int64) api.Query         { return api.Query{Kind: api.QAfter, N: n} }
func before(n int64) api.Query        { return api.Query{Kind: api.QBefore, N: n} }
func not(kids ...api.Query) api.Query { return api.Query{Kind: api.QNot, Kids: kids} }
func and(kids ...api.Query) api.Query { return api.Query{Kind: api.QAnd, Kids: kids} }
func or(kids ...api.Query) api.Query  { return api.Query{Kind: api.QOr, Kids: kids} }

func text(s string) api.Doc { return api.Doc{ID: "a", Text: s} }
func at(n int64) api.Doc    { return api.Doc{ID: "a", Time: n} }

// parse: the query of a text, which must be one.
func parse(t *testing.T, s string) api.Query {
	t.Helper()
	q, _, e := query.Parse(s)
	if e != api.OK {
		t.Fatalf("Parse(%q): %d", s, e)
	}
	return q
}

func checkForm(t *testing.T, d api.Doc, want bool) {
	t.Helper()
	if match.Form(d) != want {
		t.Errorf("Form(%.60q, %d, %.60q) = %v", d.ID, d.Time, d.Text, !want)
	}
}

func checkHas(t *testing.T, q api.Query, d api.Doc, want bool) {
	t.Helper()
	if match.Has(q, d) != want {
		t.Errorf("Has(%v, (%q, %d, %.60q)) = %v", q, d.ID, d.Time, d.Text, !want)
	}
}

func checkFind(t *testing.T, q api.Query, l []api.Doc, want ...api.Doc) {
	t.Helper()
	if got := match.Find(q, l); !slices.Equal(got, want) {
		t.Errorf("Find(%v, %v) = %v, want %v", q, l, got, want)
	}
}

// P7.1

func TestFormOfTheID(t *testing.T) {
	for n := range 2 * api.MaxName {
		checkForm(t, api.Doc{ID: strings.Repeat("x", n)}, 1 <= n && n <= api.MaxName)
	}
	for b := range 256 {
		c := string([]byte{byte(b)})
		good := 0x21 <= b && b <= 0x7e
		for _, id := range []string{c, c + "xx", "x" + c + "x", "xx" + c, strings.Repeat("x", api.MaxName-1) + c} {
			checkForm(t, api.Doc{ID: id}, good)
		}
	}
	for _, id := range []string{"é", "a\u00a0b", "a b", "a\n", "\x00"} {
		checkForm(t, api.Doc{ID: id, Time: 1, Text: "x"}, false)
	}
	// By bytes, not by characters.
	checkForm(t, api.Doc{ID: strings.Repeat("é", 16)}, false)
}

func TestFormOfTheText(t *testing.T) {
	for _, n := range []int{0, 1, api.MaxText - 1, api.MaxText} {
		checkForm(t, text(strings.Repeat("x", n)), true)
	}
	for _, n := range []int{api.MaxText + 1, 2 * api.MaxText, 1 << 20} {
		checkForm(t, text(strings.Repeat("x", n)), false)
	}
	// By bytes, not by characters, and whatever they are.
	checkForm(t, text(strings.Repeat("é", api.MaxText/2)), true)
	checkForm(t, text(strings.Repeat("é", api.MaxText/2)+"x"), false)
	for b := range 256 {
		checkForm(t, text(string([]byte{byte(b)})), true)
	}
	checkForm(t, text("\xff\x00\xc3"), true)
	checkForm(t, api.Doc{Text: "x", Time: 1}, false)
	checkForm(t, api.Doc{}, false)
}

func TestFormOfTheTime(t *testing.T) {
	for _, n := range []int64{math.MinInt64, -1, 0, 1, math.MaxInt64} {
		checkForm(t, at(n), true)
	}
}

// P7.2

func TestHasOfTheChapter(t *testing.T) {
	checkHas(t, parse(t, "NOT red"), text("Red"), false)
	checkHas(t, parse(t, "NOT red"), text("blue"), true)
}

func TestHasAll(t *testing.T) {
	checkHas(t, all(), api.Doc{}, true)
	checkHas(t, all(), text("red"), true)
	checkHas(t, api.Query{}, text("red"), true)
}

func TestHasTerms(t *testing.T) {
	d := text("Red apple=GREEN, a=b=c; É")
	for _, s := range []string{"red", "apple", "green", "apple=green", "a", "b", "c", "a=b", "b=c", "É"} {
		// A word is asked for as a pair is: among the terms.
		checkHas(t, word(s), d, true)
		checkHas(t, pair(s), d, true)
		checkHas(t, not(word(s)), d, false)
	}
	for _, s := range []string{"", "Red", "RED", "re", "redd", "ed", "GREEN", "apple=", "=green", "apple=GREEN", "red=apple", "red apple", "a=c", "a=b=c", "é", "=", " red", "zz", "0"} {
		checkHas(t, word(s), d, false)
		checkHas(t, pair(s), d, false)
		checkHas(t, not(pair(s)), d, true)
	}
	checkHas(t, word(""), api.Doc{}, false)
	// The text is asked, not the id.
	checkHas(t, word("red"), api.Doc{ID: "red"}, false)
	// Of a long word the pieces are there, the whole isn't; a text that no entry may have is asked all the same.
	long := strings.Repeat("m", api.MaxWord)
	checkHas(t, word(long), text(long+"n"), true)
	checkHas(t, word("n"), text(long+"n"), true)
	checkHas(t, word(long+"n"), text(long+"n"), false)
	checkHas(t, word("end"), api.Doc{Text: strings.Repeat("x ", api.MaxText) + "end"}, true)
}

func TestHasTimes(t *testing.T) {
	times := []int64{math.MinInt64, math.MinInt64 + 1, -2, -1, 0, 1, 2, math.MaxInt64 - 1, math.MaxInt64}
	for i, n := range times {
		for k, m := range times {
			checkHas(t, after(n), at(m), k > i)
			checkHas(t, before(n), at(m), k < i)
		}
	}
}

func TestHasNotNeedsOneKid(t *testing.T) {
	yes, no := all(), or()
	d := text("red")
	checkHas(t, not(), d, false)
	checkHas(t, not(yes), d, false)
	checkHas(t, not(no), d, true)
	checkHas(t, not(no, no), d, false)
	checkHas(t, not(yes, no), d, false)
	checkHas(t, not(no, yes), d, false)
	checkHas(t, not(not(yes)), d, true)
	// A NOT without its kid is answered by none, so that its NOT is by all.
	checkHas(t, not(not()), d, true)
	checkHas(t, not(not(no, no)), d, true)
}

func TestHasAndOr(t *testing.T) {
	d := text("red")
	checkHas(t, and(), d, true)
	checkHas(t, or(), d, false)
	checkHas(t, api.Query{Kind: api.QAnd, Kids: []api.Query{}}, d, true)
	checkHas(t, api.Query{Kind: api.QOr, Kids: []api.Query{}}, d, false)
	// Every row of up to six kids, each answered or not.
	for n := 1; n <= 6; n++ {
		for bits := range 1 << n {
			var kids []api.Query
			for i := range n {
				if bits>>i&1 == 1 {
					kids = append(kids, word("red"))
				} else {
					kids = append(kids, word("blue"))
				}
			}
			checkHas(t, and(kids...), d, bits == 1<<n-1)
			checkHas(t, or(kids...), d, bits != 0)
		}
	}
}

func TestHasOtherKinds(t *testing.T) {
	d := api.Doc{ID: "a", Time: 5, Text: "red"}
	for k := int(api.QBefore) + 1; k < 256; k++ {
		q := api.Query{Kind: byte(k), Text: "red", N: 5, Kids: []api.Query{all()}}
		checkHas(t, q, d, false)
		checkHas(t, not(q), d, true)
		checkHas(t, or(q, all()), d, true)
		checkHas(t, and(q, all()), d, false)
	}
}

func TestHasLooksAtTheFieldsOfItsKindAlone(t *testing.T) {
	d := api.Doc{ID: "a", Time: 5, Text: "red"}
	no := []api.Query{or()}
	for _, q := range []api.Query{
		{Kind: api.QAll, Text: "blue", N: 9, Kids: no},
		{Kind: api.QWord, Text: "red", N: 9, Kids: no},
		{Kind: api.QPair, Text: "red", N: 9, Kids: no},
		{Kind: api.QAfter, Text: "blue", N: 4, Kids: no},
		{Kind: api.QBefore, Text: "blue", N: 6, Kids: no},
		{Kind: api.QNot, Text: "blue", N: 9, Kids: no},
		{Kind: api.QAnd, Text: "blue", N: 9},
	} {
		checkHas(t, q, d, true)
		checkHas(t, not(q), d, false)
	}
	checkHas(t, api.Query{Kind: api.QOr, Text: "red", N: 4}, d, false)
}

func TestHasOfTexts(t *testing.T) {
	d := api.Doc{ID: "a", Time: 5, Text: "Red apple, k=v"}
	for s, want := range map[string]bool{
		"*": true, "NOT *": false, "red apple": true, "red blue": false, "red OR blue": true, "blue OR green": false,
		"k=v": true, "k v": true, "v=k": false, "NOT NOT red": true, "NOT (red blue)": true, "NOT red blue": false,
		"blue OR red apple >4": true, "(blue OR red) <5": false, ">4 <6": true, ">5 OR <5": false, "NOT >5 NOT <5": true,
	} {
		checkHas(t, parse(t, s), d, want)
	}
}

// P7.3

func TestOrder(t *testing.T) {
	// Each stands ahead of the next.
	l := []api.Doc{
		{ID: "z", Time: math.MinInt64}, {ID: "y", Time: -1}, {ID: "", Time: 0}, {ID: "A", Time: 0}, {ID: "B", Time: 0},
		{ID: "a", Time: 0}, {ID: "a\x00", Time: 0}, {ID: "a1", Time: 0}, {ID: "aa", Time: 0}, {ID: "b", Time: 0},
		{ID: "\x80", Time: 0}, {ID: "\uffff", Time: 0}, {ID: "\U00010000", Time: 0}, {ID: "\xff", Time: 0},
		{ID: "10", Time: 1}, {ID: "9", Time: 1}, {ID: "", Time: math.MaxInt64},
	}
	for i, a := range l {
		for k, b := range l {
			// The texts don't count.
			a.Text, b.Text = strings.Repeat("x", k), strings.Repeat("x", i)
			got := match.Order(a, b)
			if got < 0 != (i < k) || got > 0 != (i > k) {
				t.Errorf("Order(%q at %d, %q at %d) = %d", a.ID, a.Time, b.ID, b.Time, got)
			}
		}
	}
}

func TestFindOfTheChapter(t *testing.T) {
	l := []api.Doc{{ID: "c", Time: 3}, {ID: "a", Time: 1}, {ID: "b", Time: 2}}
	checkFind(t, parse(t, ">1"), l, l[2], l[0])
}

func TestFind(t *testing.T) {
	l := []api.Doc{
		{ID: "b", Time: 2, Text: "red"}, {ID: "a", Time: 2, Text: "Red"}, {ID: "z", Time: -3, Text: "blue"},
		{ID: "c", Time: math.MaxInt64, Text: "red"}, {ID: "d", Time: math.MinInt64, Text: "red blue"},
	}
	checkFind(t, all(), l, l[4], l[2], l[1], l[0], l[3])
	checkFind(t, word("red"), l, l[4], l[1], l[0], l[3])
	checkFind(t, and(word("red"), word("blue")), l, l[4])
	checkFind(t, or(), l)
	checkFind(t, word("green"), l)
	checkFind(t, all(), nil)
	checkFind(t, all(), []api.Doc{})
	// Also those that are no entries.
	checkFind(t, all(), []api.Doc{{ID: "b c"}, {}}, api.Doc{}, api.Doc{ID: "b c"})
}

func TestFindKeepsThoseThatStandTogether(t *testing.T) {
	// So many that no way of sorting keeps their order by chance; the texts tell them apart.
	var l []api.Doc
	for i := range 500 {
		l = append(l, api.Doc{ID: string(rune('a' + i*7%3)), Time: int64(i * 5 % 4), Text: strings.Repeat("x ", i%9) + "n" + strings.Repeat("y", i%25)})
	}
	l = append(l, l...)
	q := not(word("n"))
	var want []api.Doc
	for n := range int64(4) {
		for _, id := range []string{"a", "b", "c"} {
			for i, d := range l {
				if d.Time == n && d.ID == id && i%500%25 != 0 {
					want = append(want, d)
				}
			}
		}
	}
	checkFind(t, q, l, want...)
}
