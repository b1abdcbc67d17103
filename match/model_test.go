package match_test

import (
	"math/rand"
	"slices"
	"strings"
	"testing"

	"fascine/api"
	"fascine/match"
	"fascine/words"
)

// The model: for each query the set of entries that answer it, worked out for all of them together.

func modelHas(q api.Query, l []api.Doc) []bool {
	set := make([]bool, len(l))
	var kids [][]bool
	for _, k := range q.Kids {
		kids = append(kids, modelHas(k, l))
	}
	for i, d := range l {
		yes := 0
		for _, k := range kids {
			if k[i] {
				yes++
			}
		}
		set[i] = q.Kind == api.QAll ||
			(q.Kind == api.QWord || q.Kind == api.QPair) && slices.Contains(words.Terms(d.Text), q.Text) ||
			q.Kind == api.QAfter && d.Time > q.N ||
			q.Kind == api.QBefore && d.Time < q.N ||
			q.Kind == api.QNot && len(kids) == 1 && yes == 0 ||
			q.Kind == api.QAnd && yes == len(kids) ||
			q.Kind == api.QOr && yes > 0
	}
	return set
}

// modelFind: the entries put in one by one, each behind all that don't stand behind it.
func modelFind(q api.Query, l []api.Doc) []api.Doc {
	var found []api.Doc
	for i, yes := range modelHas(q, l) {
		if !yes {
			continue
		}
		at := len(found)
		for at > 0 && (found[at-1].Time > l[i].Time || found[at-1].Time == l[i].Time && found[at-1].ID > l[i].ID) {
			at--
		}
		found = slices.Insert(found, at, l[i])
	}
	return found
}

func pick(r *rand.Rand, l []string) string { return l[r.Intn(len(l))] }

func someDoc(r *rand.Rand) api.Doc {
	var b strings.Builder
	for range r.Intn(6) {
		b.WriteString(pick(r, []string{"a", "B", "c", "a=b", "=", " ", " ", "-", "é", "\xff"}))
	}
	return api.Doc{ID: pick(r, []string{"a", "b", "ab", "B", "é"}), Time: int64(r.Intn(7) - 3), Text: b.String()}
}

func someQuery(r *rand.Rand, levels int) api.Query {
	q := api.Query{Kind: byte(r.Intn(9)), N: int64(r.Intn(7) - 3), Text: pick(r, []string{"a", "b", "c", "a=b", "b=a", "ab", "A", "", "é"})}
	if levels > 0 {
		for range r.Intn(4) {
			q.Kids = append(q.Kids, someQuery(r, levels-1))
		}
	}
	return q
}

func TestAgainstModel(t *testing.T) {
	r := rand.New(rand.NewSource(7))
	answered := 0
	for range 5000 {
		q := someQuery(r, r.Intn(5))
		var l []api.Doc
		for range r.Intn(30) {
			l = append(l, someDoc(r))
		}
		for i, want := range modelHas(q, l) {
			checkHas(t, q, l[i], want)
			if want {
				answered++
			}
		}
		checkFind(t, q, l, modelFind(q, l)...)
	}
	if answered < 5000 {
		t.Errorf("the model was answered by %d entries alone", answered)
	}
}

// P1, P2 and memory

func TestDeeplyNested(t *testing.T) {
	const levels = 1<<16 - 1
	d := text("red")
	nots, ands, ors := word("red"), word("red"), word("blue")
	for range levels {
		nots, ands, ors = not(nots), and(word("red"), ands), or(word("blue"), ors)
	}
	if match.Has(nots, d) || !match.Has(ands, d) || match.Has(ors, d) {
		t.Error("Has of deep queries")
	}
}

func TestManyKidsAndLongTexts(t *testing.T) {
	var kids []api.Query
	for range 1 << 16 {
		kids = append(kids, not(word("blue")))
	}
	// The terms of the text are taken once, or this doesn't end in time.
	d := api.Doc{Text: strings.Repeat("Red k=v ", 1<<13)}
	if !match.Has(and(kids...), d) || match.Has(or(not(and(kids...)), word("k=k")), d) {
		t.Error("Has of many kids")
	}
	if match.Form(d) {
		t.Error("Form of a long text")
	}
}

func TestManyEntries(t *testing.T) {
	const many = 1 << 17
	l := make([]api.Doc, many)
	for i := range l {
		l[i] = api.Doc{ID: "a", Time: int64(i * 7919 % many)}
	}
	found := match.Find(before(many/2), l)
	if len(found) != many/2 {
		t.Fatalf("Find tells %d of %d", len(found), many)
	}
	for i, d := range found {
		if d.Time != int64(i) {
			t.Fatalf("number %d is at %d", i, d.Time)
		}
	}
}

func TestWhatIsHandedInStays(t *testing.T) {
	room := []api.Doc{{ID: "c", Time: 3}, {ID: "a", Time: 1}, {ID: "b", Time: 2}, {ID: "spare", Time: 0}, {ID: "too", Time: -1}}
	kids := []api.Query{after(0), all(), word("spare")}
	before, asked := slices.Clone(room), and(kids[:2]...)
	match.Find(asked, room[:3])
	match.Has(asked, room[0])
	if !slices.Equal(room, before) {
		t.Errorf("the entries are %v", room)
	}
	if kids[0].Kind != api.QAfter || kids[1].Kind != api.QAll || kids[2].Text != "spare" {
		t.Errorf("the kids are %v", kids)
	}
}

func TestAnswersAreNewMemory(t *testing.T) {
	l := []api.Doc{{ID: "a", Time: 1}, {ID: "b", Time: 2}, {ID: "c", Time: 3}}
	want := slices.Clone(l)
	// All of them, in the order in which they are: the list itself might have been handed out.
	a, b := match.Find(all(), l), match.Find(all(), l)
	for i := range a[:cap(a)] {
		a[:cap(a)][i] = api.Doc{ID: "!"}
	}
	if !slices.Equal(l, want) || !slices.Equal(b, want) {
		t.Errorf("the entries are %v, the other answer is %v", l, b)
	}
	for i := range l {
		l[i] = api.Doc{}
	}
	if !slices.Equal(b, want) {
		t.Errorf("the answer is %v behind a change of the argument", b)
	}
}
