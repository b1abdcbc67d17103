package words_test

import (
	"math/rand"
	"slices"
	"sort"
	"strings"
	"testing"
	"unicode/utf8"

	"fascine/api"
	"fascine/words"
)

// The signatures that the chapter lists.
var (
	_ func(string) []words.Word = words.Words
	_ func(string) []string     = words.Terms
	_ func(string) bool         = words.One
	_ func(string) bool         = words.Pair
	_                           = words.Word{Text: "a", At: 0, End: 1}
)

func checkWords(t *testing.T, s string, l ...words.Word) {
	t.Helper()
	if got := words.Words(s); !slices.Equal(got, l) {
		t.Errorf("Words(%q) = %v, want %v", s, got, l)
	}
}

func checkTerms(t *testing.T, s string, l ...string) {
	t.Helper()
	if got := words.Terms(s); !slices.Equal(got, l) {
		t.Errorf("Terms(%q) = %q, want %q", s, got, l)
	}
}

func checkOnePair(t *testing.T, s string, one, pair bool) {
	t.Helper()
	if words.One(s) != one || words.Pair(s) != pair {
		t.Errorf("One(%q) = %v, Pair = %v, want %v, %v", s, words.One(s), words.Pair(s), one, pair)
	}
}

// Characters that are whole UTF-8, each with more than one byte: the least and the greatest of each length, blanks and signs among them.
var whole = []string{
	"\u0080", "\u0085", "\u00a0", "é", "É", "ß", "\u07ff", "\u0800", "\u2028", "€", "\u3000", "\ud7ff", "\ue000", "\ufeff", "\ufffd", "\uffff", "\U00010000", "😀", "\U0010ffff",
}

// Bytes that are of no whole character.
var broken = []string{
	"\x80", "\xbf", "\xc3", "\xe2\x82", "\xf0\x9f\x98", // a part of one
	"\xc0\x80", "\xc1\xbf", "\xe0\x80\x80", "\xe0\x9f\xbf", "\xf0\x80\x80\x80", // longer than need be
	"\xed\xa0\x80", "\xed\xbf\xbf", "\xf4\x90\x80\x80", "\xf8\x88\x80\x80\x80", "\xfe", "\xff", // of no character
}

// P5.1

func TestWordsOfTheChapter(t *testing.T) {
	checkWords(t, "é-1", words.Word{"é", 0, 2}, words.Word{"1", 3, 4})
	checkTerms(t, "Red apple=GREEN red", "apple", "apple=green", "green", "red")
	checkOnePair(t, "Red", false, false)
	checkOnePair(t, "red", true, false)
	checkOnePair(t, "k=v", false, true)
	checkOnePair(t, "k==v", false, false)
}

func TestWordsInOrder(t *testing.T) {
	checkWords(t, "")
	checkWords(t, " \t\n=-_.()*")
	checkWords(t, "Red  APPLE9z red",
		words.Word{"red", 0, 3}, words.Word{"apple9z", 5, 12}, words.Word{"red", 13, 16})
	checkWords(t, "  b,A\x00É1", words.Word{"b", 2, 3}, words.Word{"a", 4, 5}, words.Word{"É1", 6, 9})
	checkWords(t, "k=v", words.Word{"k", 0, 1}, words.Word{"v", 2, 3})
}

func TestEachByteAlone(t *testing.T) {
	letters := "abcdefghijklmnopqrstuvwxyz0123456789ABCDEFGHIJKLMNOPQRSTUVWXYZ"
	for b := range 256 {
		s := string([]byte{byte(b)})
		var l, both []words.Word
		if strings.Contains(letters, s) {
			l = append(l, words.Word{strings.ToLower(s), 0, 1})
			both = append(both, words.Word{"x" + strings.ToLower(s) + "y", 0, 3})
		} else {
			both = append(both, words.Word{"x", 0, 1}, words.Word{"y", 2, 3})
		}
		checkWords(t, s, l...)
		checkWords(t, "x"+s+"y", both...)
	}
}

func TestWholeCharactersAreLetters(t *testing.T) {
	for _, c := range whole {
		checkWords(t, c, words.Word{c, 0, len(c)})
		checkWords(t, "A"+c+"B", words.Word{"a" + c + "b", 0, len(c) + 2})
		checkTerms(t, c+"="+c, sorted(c, c+"="+c)...)
		checkOnePair(t, c, true, false)
		checkOnePair(t, "a"+c, true, false)
		checkOnePair(t, c+"="+c, false, true)
	}
}

func TestBrokenCharactersPartWords(t *testing.T) {
	for _, c := range broken {
		n := len(c)
		checkWords(t, c)
		checkWords(t, "a"+c+"b", words.Word{"a", 0, 1}, words.Word{"b", 1 + n, 2 + n})
		checkWords(t, c+"é", words.Word{"é", n, n + 2})
		checkTerms(t, "a"+c+"=b", "a", "b")
		checkOnePair(t, c, false, false)
		checkOnePair(t, "a"+c, false, false)
		checkOnePair(t, c+"a", false, false)
		checkOnePair(t, "a="+c+"b", false, false)
	}
	// A character cut short, whose rest is a letter of its own.
	checkWords(t, "\xe2\x82a\xc3é", words.Word{"a", 2, 3}, words.Word{"é", 4, 6})
}

func TestLongWords(t *testing.T) {
	most := strings.Repeat("a", api.MaxWord)
	checkWords(t, most, words.Word{most, 0, 32})
	checkWords(t, most+"B", words.Word{most, 0, 32}, words.Word{"b", 32, 33})
	checkWords(t, "-"+most+most+"b-c", words.Word{most, 1, 33}, words.Word{most, 33, 65}, words.Word{"b", 65, 66}, words.Word{"c", 67, 68})
	// A letter of several bytes isn't cut: the next word begins with it.
	for _, c := range whole {
		n := len(c)
		for room := range n + 2 {
			front := strings.Repeat("x", api.MaxWord-room)
			at := len(front)
			if room >= n {
				rest := strings.Repeat("y", room-n)
				checkWords(t, front+c+rest+"z", words.Word{front + c + rest, 0, 32}, words.Word{"z", 32, 33})
				checkOnePair(t, front+c, true, false)
			} else {
				checkWords(t, front+c+"z", words.Word{front, 0, at}, words.Word{c + "z", at, at + n + 1})
				checkOnePair(t, front+c, false, false)
			}
		}
	}
	checkWords(t, strings.Repeat("é", 17), words.Word{strings.Repeat("é", 16), 0, 32}, words.Word{"é", 32, 34})
	checkWords(t, strings.Repeat("€", 11), words.Word{strings.Repeat("€", 10), 0, 30}, words.Word{"€", 30, 33})
}

func TestTerms(t *testing.T) {
	checkTerms(t, "")
	checkTerms(t, " = ")
	checkTerms(t, "b a B A b", "a", "b")
	checkTerms(t, "a=b=c", "a", "a=b", "b", "b=c", "c")
	checkTerms(t, "A=b a=B", "a", "a=b", "b")
	for _, s := range []string{"a==b", "a =b", "a= b", "a-b", "a b", "=a b=", "a=\x00b", "a\x80=b"} {
		checkTerms(t, s, "a", "b")
	}
	checkTerms(t, "k=v, é=z=10", "10", "k", "k=v", "v", "z", "z=10", "é", "é=z")
	// By their bytes: a pair stands ahead of a longer word, behind one that goes on with a digit.
	checkTerms(t, "a=b ab a1 \U00010000 \uffff", "a", "a1", "a=b", "ab", "b", "\uffff", "\U00010000")
	// Of a long word the last piece stands ahead of the =, and the first one behind it.
	most := strings.Repeat("m", api.MaxWord)
	checkTerms(t, most+"n="+most+"o", most, "n", "n="+most, "o")
	checkTerms(t, most+"n", most, "n")
	checkTerms(t, most+"="+most, most, most+"="+most)
}

// P5.2

func TestOneAndPair(t *testing.T) {
	most := strings.Repeat("m", api.MaxWord)
	for _, s := range []string{"a", "9", "a9é", "or", "not", most, strings.Repeat("é", 16), "É"} {
		checkOnePair(t, s, true, false)
	}
	for _, s := range []string{"a=b", "9=0", "é=É", most + "=" + most, "a=a"} {
		checkOnePair(t, s, false, true)
	}
	for _, s := range []string{
		"", " ", "=", "A", "aB", " a", "a ", "a b", "a-b", "a.", "*", most + "m", most + "é",
		"a=", "=b", "a==b", "a=b=", "=a=b", "a=b=c", " a=b", "a=b ", "a =b", "a= b", "A=b", "a=B", "a=b c", "a:b",
		most + "m=b", "a=" + most + "m", "a=\xff", "\xff=a", "a\xff", "a=b\xff",
	} {
		checkOnePair(t, s, false, false)
	}
}

// The model: the letters one by one, as range reads them, gathered into words.

func modelWords(s string) []words.Word {
	var l []words.Word
	open := false
	for i, r := range s {
		n := utf8.RuneLen(r)
		whole := r != utf8.RuneError || strings.HasPrefix(s[i:], "\ufffd")
		if !whole || r < 0x80 && !strings.ContainsRune("abcdefghijklmnopqrstuvwxyz0123456789ABCDEFGHIJKLMNOPQRSTUVWXYZ", r) {
			open = false
			continue
		}
		if r < 0x80 {
			r = []rune(strings.ToLower(string(r)))[0]
		}
		if !open || len(l[len(l)-1].Text)+n > 32 {
			l = append(l, words.Word{"", i, i})
			open = true
		}
		w := &l[len(l)-1]
		w.Text += string(r)
		w.End += n
	}
	return l
}

func modelTerms(s string) []string {
	set := map[string]int{}
	l := modelWords(s)
	for i, w := range l {
		set[w.Text]++
		if i+1 < len(l) && l[i+1].At == w.End+1 && s[w.End] == '=' {
			set[w.Text+"="+l[i+1].Text]++
		}
	}
	var terms []string
	for term := range set {
		terms = append(terms, term)
	}
	sort.Strings(terms)
	return terms
}

func holdAgainstModel(t *testing.T, s string) {
	t.Helper()
	l := modelWords(s)
	checkWords(t, s, l...)
	checkTerms(t, s, modelTerms(s)...)
	checkOnePair(t, s, len(l) == 1 && l[0].Text == s, len(l) == 2 && l[0].Text+"="+l[1].Text == s)
}

func TestAgainstModel(t *testing.T) {
	r := rand.New(rand.NewSource(5))
	pieces := slices.Concat(whole, broken, []string{"a", "b", "Z", "9", "=", "=", "=", " ", "-", "\x00", "\x7f", strings.Repeat("q", 30), "k=v"})
	for range 20000 {
		var b strings.Builder
		for range r.Intn(12) {
			b.WriteString(pieces[r.Intn(len(pieces))])
		}
		holdAgainstModel(t, b.String())
	}
	few := []string{"a", "B", "=", " ", "é", "\xff"}
	for n := range 6 {
		eachOf(few, n, func(s string) { holdAgainstModel(t, s) })
	}
	for range 2000 {
		p := make([]byte, r.Intn(100))
		r.Read(p)
		holdAgainstModel(t, string(p))
	}
}

// eachOf: each text of n of some pieces.
func eachOf(pieces []string, n int, do func(string)) {
	if n == 0 {
		do("")
		return
	}
	eachOf(pieces, n-1, func(s string) {
		for _, p := range pieces {
			do(s + p)
		}
	})
}

// P1, P2 and memory

func TestLongTexts(t *testing.T) {
	letters := strings.Repeat("x", 1<<20)
	if l := words.Words(letters); len(l) != 1<<15 || l[1<<14].At != 1<<19 {
		t.Errorf("Words of many letters: %d", len(l))
	}
	if l := words.Terms(letters); len(l) != 1 {
		t.Errorf("Terms of many letters: %d", len(l))
	}
	if words.One(letters) || words.Pair(letters) || len(words.Words(strings.Repeat("=", 1<<20))) != 0 {
		t.Error("long texts")
	}
}

func TestAnswersAreNewMemory(t *testing.T) {
	a, b := words.Words("one two"), words.Words("one two")
	_ = append(a[:0], words.Word{"x", 7, 8}, words.Word{"y", 8, 9})
	if b[0].Text != "one" || b[1].Text != "two" {
		t.Errorf("Words = %v", b)
	}
	c, d := words.Terms("b a b"), words.Terms("b a b")
	for i := range c[:cap(c)] {
		c[:cap(c)][i] = "x"
	}
	if !slices.Equal(d, []string{"a", "b"}) {
		t.Errorf("Terms = %q", d)
	}
	checkTerms(t, "b a b", "a", "b")
}

func sorted(l ...string) []string {
	sort.Strings(l)
	return l
}
