package query_test

import (
	"math/rand"
	"strconv"
	"strings"
	"testing"

	"fascine/api"
	"fascine/query"
	"fascine/words"
)

// The model reads a text piece by piece, without recursion: it knows whether a word must stand, and what is open.

// level is what is open at one bracket (or at the whole): the kids of its QOr, those of the QAnd that is being read, the NOTs ahead of the next word.
type level struct {
	ors, ands []api.Query
	nots      int
}

func (l *level) close() api.Query {
	kids := append(l.ors, one(api.QAnd, l.ands))
	return one(api.QOr, kids)
}

func (l *level) take(q api.Query) {
	for range l.nots {
		q = not(q)
	}
	l.nots = 0
	l.ands = append(l.ands, q)
}

func one(kind byte, kids []api.Query) api.Query {
	if len(kids) == 1 {
		return kids[0]
	}
	return api.Query{Kind: kind, Kids: kids}
}

type piece struct {
	text string
	at   int
}

// pieces: the words and brackets of a text, and its end.
func pieces(s string) []piece {
	var l []piece
	at := 0
	for i := range len(s) + 1 {
		parts := i == len(s) || strings.Contains(" ()", s[i:i+1])
		if parts && at < i {
			l = append(l, piece{s[at:i], at})
		}
		if parts {
			at = i + 1
		}
		if i < len(s) && strings.Contains("()", s[i:i+1]) {
			l = append(l, piece{s[i : i+1], i})
		}
	}
	return append(l, piece{"", len(s)})
}

// modelWord: what a word asks, told without the reader's order of questions.
func modelWord(s string) (api.Query, bool) {
	if n, err := strconv.ParseInt(strings.TrimLeft(s, "<>"), 10, 64); err == nil {
		switch strconv.Itoa(int(n)) {
		case strings.TrimPrefix(s, ">"):
			if s[0] == '>' {
				return after(n), true
			}
		case strings.TrimPrefix(s, "<"):
			if s[0] == '<' {
				return before(n), true
			}
		}
	}
	l := words.Words(s)
	switch {
	case s == "*":
		return all(), true
	case len(l) == 1 && l[0].Text == s:
		return word(s), true
	case len(l) == 2 && l[0].Text+"="+l[1].Text == s:
		return pair(s), true
	}
	return api.Query{}, false
}

func modelParse(s string) (api.Query, int, api.Errno) {
	if len(s) > 512 {
		return api.Query{}, 0, api.ErrLong
	}
	levels := []level{{}}
	open := func() int {
		n := len(levels) - 1
		for _, l := range levels {
			n += l.nots
		}
		return n
	}
	must := true // a word must stand
	for _, p := range pieces(s) {
		top := &levels[len(levels)-1]
		switch {
		case p.text == "" && !must && len(levels) == 1:
			return top.close(), 0, api.OK
		case p.text == "OR" && !must:
			top.ors = append(top.ors, one(api.QAnd, top.ands))
			top.ands, must = nil, true
		case p.text == ")" && !must && len(levels) > 1:
			q := top.close()
			levels = levels[:len(levels)-1]
			levels[len(levels)-1].take(q)
		case (p.text == "NOT" || p.text == "(") && open() == 16:
			return api.Query{}, p.at, api.ErrDeep
		case p.text == "NOT":
			top.nots++
			must = true
		case p.text == "(":
			levels = append(levels, level{})
			must = true
		default:
			q, ok := modelWord(p.text)
			if !ok {
				return api.Query{}, p.at, api.ErrText
			}
			top.take(q)
			must = false
		}
	}
	panic("the model has read behind the end")
}

func holdAgainstModel(t *testing.T, s string) api.Errno {
	t.Helper()
	q, at, e := modelParse(s)
	if e != api.OK {
		checkFault(t, s, e, at)
		return e
	}
	checkParse(t, s, q)
	if len(s) <= api.MaxQuery/2 {
		checkText(t, q)
	}
	return e
}

// Each text of up to so many pieces, with a blank where it is needed, and with one everywhere.
func TestEachShortText(t *testing.T) {
	signs := []string{"a", "k=v", ">-1", "Red", "OR", "NOT", "(", ")"}
	good := 0
	var each func(tight, loose string, n int)
	each = func(tight, loose string, n int) {
		for _, s := range []string{tight, loose} {
			if holdAgainstModel(t, s) == api.OK {
				good++
			}
		}
		if n == 0 || t.Failed() {
			return
		}
		for _, sign := range signs {
			between := ""
			if tight != "" && !strings.ContainsAny(tight[len(tight)-1:]+sign, "()") {
				between = " "
			}
			each(tight+between+sign, loose+" "+sign+" ", n-1)
		}
	}
	each("", "", 5)
	if good < 1000 {
		t.Errorf("%d texts were right", good)
	}
}

// Each text of up to so many bytes.
func TestEachTextOfBytes(t *testing.T) {
	var each func(s string, n int)
	each = func(s string, n int) {
		holdAgainstModel(t, s)
		if n == 0 || t.Failed() {
			return
		}
		for _, c := range "a=>0-( )*O" {
			each(s+string(c), n-1)
		}
	}
	each("", 5)
}

func TestTextsByChance(t *testing.T) {
	r := rand.New(rand.NewSource(6))
	signs := strings.Split("a,b,é,k=v,*,>5,<-7,OR ,OR ,NOT ,NOT ,NOT,(,(,(,),),), , ,  ,Red,\xff,>05", ",")
	met := map[api.Errno]int{}
	for range 60000 {
		var b strings.Builder
		kinds := 1 + r.Intn(len(signs))
		for range r.Intn(40) {
			b.WriteString(signs[r.Intn(kinds)])
			if r.Intn(3) > 0 {
				b.WriteString(" ")
			}
		}
		met[holdAgainstModel(t, b.String())]++
	}
	for range 3000 {
		s := strings.Repeat("NOT (", r.Intn(9)) + strings.Repeat("(NOT ", r.Intn(9)) + strings.Repeat("NOT NOT ", r.Intn(3)) + "a" + strings.Repeat(")", r.Intn(18))
		met[holdAgainstModel(t, s)]++
	}
	if met[api.OK] < 1000 || met[api.ErrText] < 1000 || met[api.ErrDeep] < 100 {
		t.Errorf("the texts came to %v", met)
	}
}

// tree: a query by chance, of no more than so many levels.
func tree(r *rand.Rand, levels int) api.Query {
	kind := r.Intn(10)
	if levels == 0 {
		kind = r.Intn(5)
	}
	switch kind {
	case 0:
		return all()
	case 1:
		return word(string("abcxyz019"[r.Intn(9)]))
	case 2:
		return pair("k=" + strconv.Itoa(r.Intn(99)))
	case 3:
		return after(int64(r.Uint64()) >> r.Intn(64))
	case 4:
		return before(int64(r.Uint64()) >> r.Intn(64))
	case 5:
		return not(tree(r, levels-1))
	}
	var kids []api.Query
	for range 2 + r.Intn(3) {
		kids = append(kids, tree(r, levels-1))
	}
	if kind < 8 {
		return and(kids...)
	}
	return or(kids...)
}

// size: how long and how deep a text is with single blanks and no needless brackets.
func size(parent byte, q api.Query) (long, deep int) {
	switch q.Kind {
	case api.QAll, api.QWord, api.QPair:
		return max(1, len(q.Text)), 0
	case api.QAfter, api.QBefore:
		return 1 + len(strconv.FormatInt(q.N, 10)), 0
	case api.QNot:
		long, deep = size(q.Kind, q.Kids[0])
		return long + 4, deep + 1
	}
	long = len(q.Kids) - 1
	if q.Kind == api.QOr {
		long *= 4
	}
	for _, k := range q.Kids {
		l, d := size(q.Kind, k)
		long, deep = long+l, max(deep, d)
	}
	if parent == api.QNot || parent == api.QAnd || parent == api.QOr && q.Kind == api.QOr {
		long, deep = long+2, deep+1
	}
	return long, deep
}

func TestTextOfTreesByChance(t *testing.T) {
	r := rand.New(rand.NewSource(7))
	met := map[api.Errno]int{}
	for range 30000 {
		q := tree(r, 1+r.Intn(7))
		for range r.Intn(2) * r.Intn(18) {
			q = not(q)
		}
		want := api.OK
		switch long, deep := size(api.QAll, q); {
		case long > api.MaxQuery:
			want = api.ErrLong
		case deep > api.MaxDepth:
			want = api.ErrDeep
		}
		met[want]++
		if want == api.OK {
			checkText(t, q)
		} else {
			checkNoText(t, q, want)
		}
		if !query.Same(q, plain(q)) || query.Same(q, not(q)) {
			t.Errorf("Same(%v)", q)
		}
	}
	if met[api.OK] < 1000 || met[api.ErrLong] < 100 || met[api.ErrDeep] < 100 {
		t.Errorf("the trees came to %v", met)
	}
}
