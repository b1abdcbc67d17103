package seg_test

import (
	"bytes"
	"encoding/binary"
	"math"
	"math/rand"
	"slices"
	"strconv"
	"strings"
	"testing"

	"fascine/api"
	"fascine/match"
	"fascine/seg"
	"fascine/words"
)

// The model: of each term every entry is asked anew, and the bytes are written by other means.

func modelTerms(l []api.Doc) []string {
	var terms []string
	for _, d := range l {
		for _, s := range words.Terms(d.Text) {
			if !slices.Contains(terms, s) {
				terms = append(terms, s)
			}
		}
	}
	slices.SortFunc(terms, strings.Compare)
	return terms
}

func modelPosts(l []api.Doc, term string) []int {
	var numbers []int
	for i, d := range l {
		if slices.Contains(words.Terms(d.Text), term) {
			numbers = append(numbers, i)
		}
	}
	return numbers
}

func modelBytes(l []api.Doc) []byte {
	terms := modelTerms(l)
	body := bodyOf(number(uint64(len(l))))
	for _, d := range l {
		body = append(body, entry(d)...)
	}
	body = append(body, number(uint64(len(terms)))...)
	for _, s := range terms {
		numbers := modelPosts(l, s)
		body = append(append(body, text(s)...), number(uint64(len(numbers)))...)
		for i, n := range numbers {
			if i > 0 {
				n -= numbers[i-1] + 1
			}
			body = append(body, number(uint64(n))...)
		}
	}
	return summed(body)
}

// modelDocs: the entries of some bytes, read by other means, as far as they go; the terms aren't looked at.
func modelDocs(p []byte) []api.Doc {
	b := bytes.NewBuffer(bytes.TrimPrefix(p, []byte("SEG1")))
	take := func() string {
		n, _ := binary.ReadUvarint(b)
		return string(b.Next(int(min(n, 1<<20))))
	}
	many, _ := binary.ReadUvarint(b)
	var l []api.Doc
	for i := uint64(0); i < many && b.Len() > 0; i++ {
		id := take()
		time, _ := binary.ReadVarint(b)
		l = append(l, api.Doc{ID: id, Time: time, Text: take()})
	}
	return l
}

// modelOpens: does Build make these bytes of some list?
func modelOpens(p []byte) bool {
	l := modelDocs(p)
	for _, d := range l {
		if !match.Form(d) {
			return false
		}
	}
	return bytes.Equal(p, modelBytes(l))
}

func modelFind(q api.Query, l []api.Doc) []int {
	var numbers []int
	for i, d := range l {
		if match.Has(q, d) {
			numbers = append(numbers, i)
		}
	}
	return numbers
}

func pick(r *rand.Rand, l ...string) string { return l[r.Intn(len(l))] }

func someDocs(r *rand.Rand, many int) []api.Doc {
	var l []api.Doc
	for range many {
		var b strings.Builder
		for range r.Intn(8) {
			b.WriteString(pick(r, "a", "B", "c", "a=b", "=", " ", " ", "-", "é", "\xff"))
		}
		time := int64(r.Intn(7) - 3)
		if r.Intn(4) == 0 {
			time = int64(r.Uint64())
		}
		l = append(l, api.Doc{ID: pick(r, "a", "b", "ab", "B", "!~"), Time: time, Text: b.String()})
	}
	return l
}

func someQuery(r *rand.Rand, levels int) api.Query {
	q := api.Query{Kind: byte(r.Intn(9)), N: int64(r.Intn(7) - 3), Text: pick(r, "a", "b", "c", "a=b", "b=a", "ab", "A", "", "é")}
	if levels > 0 {
		for range r.Intn(4) {
			q.Kids = append(q.Kids, someQuery(r, levels-1))
		}
	}
	return q
}

func TestAgainstModel(t *testing.T) {
	r := rand.New(rand.NewSource(9))
	for n := range 400 {
		l := someDocs(r, r.Intn(40))
		if n == 0 {
			l = someDocs(r, 300)
		}
		p := build(t, l)
		if want := modelBytes(l); !bytes.Equal(p, want) {
			t.Fatalf("Build of %d entries = %.200x, want %.200x", len(l), p, want)
		}
		s := open(t, p)
		checkDocs(t, s, l...)
		checkTerms(t, s, modelTerms(l)...)
		for _, term := range append(modelTerms(l), "A", "x", "", "a=", "b=b=b") {
			checkPosts(t, s, term, modelPosts(l, term)...)
		}
	}
}

func TestFindAgainstModel(t *testing.T) {
	r := rand.New(rand.NewSource(99))
	some := 0
	for range 300 {
		l := someDocs(r, r.Intn(50))
		s := segment(t, l...)
		for range 60 {
			q := someQuery(r, r.Intn(5))
			want := modelFind(q, l)
			checkFind(t, s, q, want...)
			if len(want) > 0 && len(want) < len(l) {
				some++
			}
		}
	}
	if some < 3000 {
		t.Errorf("%d queries alone were answered by some entries, not by all", some)
	}
}

// checkSummed: Open of bytes whose sum is right: is it a segment just where the model says so?
func checkSummed(t *testing.T, p []byte) bool {
	t.Helper()
	s, e := seg.Open(p)
	if !modelOpens(p) {
		if s != nil || e != api.ErrForm {
			t.Errorf("Open(%q): a segment: %v, %d", p, s != nil, e)
		}
		return false
	}
	if s == nil || e != api.OK {
		t.Errorf("Open(%q): %d", p, e)
		return false
	}
	checkDocs(t, s, modelDocs(p)...)
	return true
}

func TestOpenOfEachChangedByte(t *testing.T) {
	p := build(t, []api.Doc{{ID: "a", Time: 1, Text: "x k=v"}, {ID: "bc", Time: -200, Text: "-x"}, {ID: "d"}})
	body := p[:len(p)-4]
	opened := 0
	for i := range body {
		if i < len("SEG1") {
			continue
		}
		for b := range 256 {
			changed := slices.Clone(body)
			changed[i] = byte(b)
			if checkSummed(t, summed(changed)) {
				opened++
			}
		}
	}
	// At the least as it was, with other times, and with other ids.
	if opened < len(body)+2*128+3*90 {
		t.Errorf("%d were opened alone", opened)
	}
}

func TestOpenOfBytesByChance(t *testing.T) {
	r := rand.New(rand.NewSource(999))
	for range 3000 {
		p := build(t, someDocs(r, r.Intn(5)))
		body := slices.Clone(p[:len(p)-4])
		for range 1 + r.Intn(3) {
			at := 4 + r.Intn(len(body)-3)
			switch r.Intn(3) {
			case 0:
				body = slices.Insert(body, at, byte(r.Intn(256)))
			case 1:
				body = slices.Delete(body, min(at, len(body)-1), len(body)-r.Intn(len(body)-min(at, len(body)-1)))
			default:
				body[min(at, len(body)-1)] = byte(r.Intn(8))
			}
			if len(body) < 6 {
				body = []byte("SEG1\x01\x02")
			}
		}
		if bytes.HasPrefix(body, []byte("SEG1")) {
			checkSummed(t, summed(body))
		}
	}
}

// P1, P2 and memory

func TestDeeplyNested(t *testing.T) {
	const levels = 1<<16 - 1
	var l []api.Doc
	for i := range 40 {
		l = append(l, api.Doc{ID: "a", Time: int64(i), Text: pick(rand.New(rand.NewSource(int64(i))), "red", "blue", "red blue", "")})
	}
	s := segment(t, l...)
	nots, ands, ors, both := word("red"), word("red"), word("blue"), word("red")
	for i := range levels {
		nots, ands, ors = not(nots), and(word("red"), ands), or(word("blue"), ors)
		if i%2 == 0 {
			both = or(word("green"), both)
		} else {
			both = and(after(-1), both)
		}
	}
	red := modelFind(word("red"), l)
	checkFind(t, s, nots, modelFind(not(word("red")), l)...)
	checkFind(t, s, ands, red...)
	checkFind(t, s, ors, modelFind(word("blue"), l)...)
	checkFind(t, s, both, red...)
}

func TestDeeplyNestedOfManyEntries(t *testing.T) {
	// Nearly all levels are answered by all entries: none of them may keep a list of its own.
	l := make([]api.Doc, api.MaxDocs)
	for i := range l {
		l[i] = api.Doc{ID: "a", Time: int64(i), Text: "red"}
	}
	s := segment(t, l...)
	q := before(7)
	for range 1 << 13 {
		q = or(word("green"), and(word("red"), not(or(pair("k=v"), not(q)))))
	}
	checkFind(t, s, q, 0, 1, 2, 3, 4, 5, 6)
}

func TestManyKids(t *testing.T) {
	s := segment(t, api.Doc{ID: "a", Text: "red"}, api.Doc{ID: "b", Text: "blue"})
	var kids []api.Query
	for range 1 << 16 {
		kids = append(kids, not(word("blue")))
	}
	checkFind(t, s, and(kids...), 0)
	checkFind(t, s, or(kids...), 0)
	checkFind(t, s, not(kids...))
}

func TestTheGreatest(t *testing.T) {
	// As many entries as there may be, each as long as it may be, with many terms.
	l := make([]api.Doc, api.MaxDocs)
	for i := range l {
		word := strconv.Itoa(i) + "=" + strconv.Itoa(i%10) + " Even" + strconv.Itoa(i%2) + " "
		l[i] = api.Doc{ID: strings.Repeat("x", api.MaxName), Time: math.MinInt64 + int64(i), Text: (word + strings.Repeat("a=b ", api.MaxText))[:api.MaxText]}
	}
	s := segment(t, l...)
	checkDocs(t, s, l...)
	var odd, seven []int
	for i := range l {
		if i%2 == 1 {
			odd = append(odd, i)
		}
		if i%10 == 7 || i == 7 {
			seven = append(seven, i)
		}
	}
	checkPosts(t, s, "even1", odd...)
	checkPosts(t, s, "7", seven...)
	checkPosts(t, s, "4095=5", 4095)
	if n := len(s.Posts("a=b")); n != api.MaxDocs {
		t.Errorf("%d posts", n)
	}
	checkFind(t, s, and(word("a=b"), word("even1")), odd...)
	if got := s.Terms(); !slices.IsSorted(got) || len(got) != 2*api.MaxDocs+5 {
		t.Errorf("%d terms", len(got))
	}
}

func TestTheSameEachTime(t *testing.T) {
	r := rand.New(rand.NewSource(1))
	l := someDocs(r, 60)
	p := build(t, l)
	for range 30 {
		if !bytes.Equal(build(t, l), p) {
			t.Fatal("Build makes other bytes of the same list")
		}
	}
	s, again := open(t, p), open(t, p)
	for range 30 {
		if !slices.Equal(s.Terms(), again.Terms()) {
			t.Fatal("Terms tells another order")
		}
	}
}

func TestWhatIsHandedInStays(t *testing.T) {
	room := []api.Doc{{ID: "c", Time: 3, Text: "red"}, {ID: "a", Time: 1}, {ID: "spare", Text: "!"}}
	want := slices.Clone(room)
	p := build(t, room[:2])
	if !slices.Equal(room, want) {
		t.Errorf("the entries are %v", room)
	}
	// Bytes with spare room behind them.
	wide := append(slices.Clone(p), 0xaa, 0xbb, 0xcc)
	s := open(t, wide[:len(p)])
	if !bytes.Equal(wide[:len(p)], p) || !bytes.Equal(wide[len(p):], []byte{0xaa, 0xbb, 0xcc}) {
		t.Errorf("the bytes are %x", wide)
	}
	kids := []api.Query{after(0), all(), word("spare")}
	s.Find(and(kids[:2]...))
	if kids[0].Kind != api.QAfter || kids[1].Kind != api.QAll || kids[2].Text != "spare" {
		t.Errorf("the kids are %v", kids)
	}
}

func TestWhatIsHandedInIsNotKept(t *testing.T) {
	l := []api.Doc{{ID: "c", Time: 3, Text: "red k=v"}, {ID: "a", Time: 1, Text: "red"}}
	want := slices.Clone(l)
	p := build(t, l)
	before := slices.Clone(p)
	clear(l)
	if !bytes.Equal(p, before) {
		t.Error("the bytes have changed with the entries")
	}
	s := open(t, p)
	for i := range p {
		p[i] = '!'
	}
	checkDocs(t, s, want...)
	checkTerms(t, s, "k", "k=v", "red", "v")
	checkPosts(t, s, "red", 0, 1)
	checkFind(t, s, pair("k=v"), 0)
}

func TestAnswersAreNewMemory(t *testing.T) {
	l := []api.Doc{{ID: "a", Time: 1, Text: "red"}, {ID: "b", Time: 2, Text: "red blue"}, {ID: "c", Time: 3, Text: "red"}}
	s := segment(t, l...)
	spoil := func(numbers []int) {
		numbers = numbers[:cap(numbers)]
		for i := range numbers {
			numbers[i] = -1
		}
	}
	asked := []api.Query{all(), word("red"), and(), and(word("red")), or(word("red")), or(all(), all()), not(word("green")), after(0), word("blue"), not(word("blue"))}
	for range 2 {
		for _, q := range asked {
			a, b := s.Find(q), s.Find(q)
			spoil(a)
			if !slices.Equal(b, modelFind(q, l)) {
				t.Errorf("Find(%v) = %v behind a change of another answer", q, b)
			}
		}
		a, b := s.Posts("red"), s.Posts("red")
		spoil(a)
		if !slices.Equal(b, []int{0, 1, 2}) {
			t.Errorf("Posts = %v behind a change of another answer", b)
		}
		x, y := s.Terms(), s.Terms()
		for i := range x[:cap(x)] {
			x[:cap(x)][i] = "!"
		}
		if !slices.Equal(y, []string{"blue", "red"}) {
			t.Errorf("Terms = %q behind a change of another answer", y)
		}
		checkPosts(t, s, "red", 0, 1, 2)
		checkTerms(t, s, "blue", "red")
	}
	one, two := build(t, l), build(t, l)
	for i := range one[:cap(one)] {
		one[:cap(one)][i] = 0xff
	}
	checkDocs(t, open(t, two), l...)
}
