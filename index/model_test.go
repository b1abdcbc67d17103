package index_test

import (
	"math/rand"
	"slices"
	"strconv"
	"strings"
	"testing"

	"fascine/api"
	"fascine/index"
	"fascine/match"
)

// The model: all entries in one list, and the segments' sizes told by how often flush is in their number: in base merge, each digit says how many segments there are of its worth.

func modelSizes(flush, merge, many int) []int {
	var sizes []int
	worth := flush
	for n := many / flush; n > 0; n /= merge {
		for range n % merge {
			sizes = append(sizes, worth)
		}
		worth *= merge
	}
	slices.Reverse(sizes)
	return sizes
}

func modelGet(l []api.Doc, id string) int {
	return slices.IndexFunc(l, func(d api.Doc) bool { return d.ID == id })
}

func modelFind(q api.Query, l []api.Doc) []api.Doc {
	var found []api.Doc
	for _, d := range l {
		if match.Has(q, d) {
			found = append(found, d)
		}
	}
	slices.SortFunc(found, func(a, b api.Doc) int {
		if a.Time != b.Time {
			if a.Time < b.Time {
				return -1
			}
			return 1
		}
		return strings.Compare(a.ID, b.ID)
	})
	return found
}

func pick(r *rand.Rand, l ...string) string { return l[r.Intn(len(l))] }

// someDoc: an entry by chance, whose ID is one of so many; one in ten is none.
func someDoc(r *rand.Rand, many int) api.Doc {
	var b strings.Builder
	for range r.Intn(8) {
		b.WriteString(pick(r, "a", "B", "c", "a=b", "=", " ", " ", "-", "é", "\xff"))
	}
	d := api.Doc{ID: pick(r, "a", "B", "!") + strconv.Itoa(r.Intn(many)), Time: int64(r.Intn(7) - 3), Text: b.String()}
	switch r.Intn(20) {
	case 0:
		d.ID = pick(r, "", " ", "é", strings.Repeat("x", api.MaxName+1))
	case 1:
		d.Text = strings.Repeat("a ", api.MaxText)
	case 2:
		d.Time = int64(r.Uint64())
	}
	return d
}

func someQuery(r *rand.Rand, levels int) api.Query {
	q := api.Query{Kind: byte(r.Intn(9)), N: int64(r.Intn(7) - 3), Text: pick(r, "a", "b", "c", "a=b", "b=a", "ab", "A", "", "é")}
	if levels > 0 {
		for range r.Intn(4) {
			q.Kids = append(q.Kids, someQuery(r, levels-1))
		}
	}
	return q
}

// modelAdd: what Add answers to d, and the entries behind it.
func modelAdd(l []api.Doc, d api.Doc) ([]api.Doc, int, api.Errno) {
	if !match.Form(d) {
		return l, 0, api.ErrForm
	}
	if n := modelGet(l, d.ID); n >= 0 {
		return l, n, api.ErrExists
	}
	return append(l, d), len(l), api.OK
}

// checkWhole: all that an index tells of its segments is as these entries ask.
func checkWhole(t *testing.T, x *index.Index, sizes []int, l []api.Doc) {
	t.Helper()
	checkSegments(t, x, sizes...)
	at := 0
	for i, n := range sizes {
		checkBytes(t, x, i, l[at:at+n])
		at += n
	}
	checkNoBytes(t, x, -1, len(sizes))
}

func TestAgainstModel(t *testing.T) {
	r := rand.New(rand.NewSource(10))
	told := map[api.Errno]int{}
	some := 0
	for range 300 {
		flush, merge := 1+r.Intn(64), 2+r.Intn(7)
		if r.Intn(2) == 0 {
			flush = 1 + r.Intn(4)
		}
		x := made(t, flush, merge)
		var l []api.Doc
		for range r.Intn(150) {
			d := someDoc(r, 60)
			var n int
			var e api.Errno
			l, n, e = modelAdd(l, d)
			checkAdd(t, x, d, n, e)
			told[e]++
			if r.Intn(10) > 0 {
				continue
			}
			checkWhole(t, x, modelSizes(flush, merge, len(l)), l)
			upto := r.Intn(len(l) + 1)
			q := someQuery(r, r.Intn(4))
			want := modelFind(q, l[:upto])
			checkFind(t, x, q, upto, want...)
			if len(want) > 0 && len(want) < upto {
				some++
			}
		}
		if n := x.Len(); n != len(l) {
			t.Fatalf("Len = %d, want %d", n, len(l))
		}
		for i, d := range l {
			checkGet(t, x, d.ID, i, api.OK)
		}
	}
	if some < 300 || told[api.OK] < 3000 || told[api.ErrForm] < 300 || told[api.ErrExists] < 300 {
		t.Errorf("%d finds by some entries, not by all; Add told %v", some, told)
	}
}

func TestSegmentsAgainstModel(t *testing.T) {
	for flush := 1; flush <= 64; flush++ {
		for merge := 2; merge <= 8; merge++ {
			x := made(t, flush, merge)
			for i := range 300 {
				add(t, x, api.Doc{ID: strconv.Itoa(i)})
				if got, want := x.Segments(), modelSizes(flush, merge, i+1); !slices.Equal(got, want) {
					t.Fatalf("New(%d, %d): behind %d entries Segments = %v, want %v", flush, merge, i+1, got, want)
				}
			}
		}
	}
}

// P1, P2 and memory

func TestDeeplyNested(t *testing.T) {
	x := made(t, 4, 3)
	l := numbered(0, 50)
	add(t, x, l...)
	q := word("k=1")
	for range 1<<16 - 1 {
		q = not(q)
	}
	checkFind(t, x, q, 50, modelFind(not(word("k=1")), l)...)
	// Entries in no segment yet are asked as deep.
	y := made(t, 64, 2)
	add(t, y, l...)
	checkFind(t, y, q, 50, modelFind(not(word("k=1")), l)...)
}

func TestTheGreatest(t *testing.T) {
	// As many entries as there may be, each as long as it may be.
	x := made(t, 64, 2)
	var l []api.Doc
	for i := range api.MaxDocs {
		text := strconv.Itoa(i%7) + " Even" + strconv.Itoa(i%2) + " " + strings.Repeat("a=b ", api.MaxText)
		d := api.Doc{ID: strings.Repeat("x", api.MaxName-4) + strconv.Itoa(1000+i), Time: int64(i % 5), Text: text[:api.MaxText]}
		l = append(l, d)
	}
	add(t, x, l...)
	checkSegments(t, x, api.MaxDocs)
	checkBytes(t, x, 0, l)
	checkFind(t, x, word("a=b"), api.MaxDocs, modelFind(all, l)...)
	checkFind(t, x, word("6"), 4000, modelFind(word("6"), l[:4000])...)
}

func TestFindChangesNothing(t *testing.T) {
	x := made(t, 2, 2)
	l := numbered(0, 7)
	add(t, x, l...)
	sizes := x.Segments()
	for range 3 {
		for upto := range 8 {
			x.Find(word("k=1"), upto)
			x.Find(all, upto)
		}
		x.Find(all, -1)
		x.Find(all, 8)
		x.Get("n1")
		x.Bytes(0)
		x.Bytes(9)
		checkWhole(t, x, sizes, l)
		checkFind(t, x, all, 7, modelFind(all, l)...)
	}
}

func TestTheSameEachTime(t *testing.T) {
	r := rand.New(rand.NewSource(7))
	var l []api.Doc
	for i := range 90 {
		d := someDoc(r, 1)
		l = append(l, api.Doc{ID: strconv.Itoa(i), Time: d.Time, Text: "red"})
	}
	for range 20 {
		x := made(t, 3, 2)
		add(t, x, l...)
		checkWhole(t, x, modelSizes(3, 2, 90), l)
		checkFind(t, x, word("red"), 90, modelFind(all, l)...)
	}
}

func TestWhatIsHandedInStays(t *testing.T) {
	x := made(t, 2, 2)
	add(t, x, numbered(0, 5)...)
	room := []api.Query{word("red"), not(word("k=1")), {Kind: api.QOr, Text: "spare"}}
	q := api.Query{Kind: api.QAnd, Kids: room[:2]}
	if l, e := x.Find(q, 5); len(l) != 3 || e != api.OK {
		t.Errorf("Find = %v, %d", l, e)
	}
	if room[0].Text != "red" || room[1].Kind != api.QNot || room[1].Kids[0].Text != "k=1" || room[2].Text != "spare" || room[2].Kind != api.QOr {
		t.Errorf("the kids are %v", room)
	}
}

// spoil: some memory is written over, its spare room too.
func spoil[T any](l []T, v T) {
	l = l[:cap(l)]
	for i := range l {
		l[i] = v
	}
}

func TestAnswersAreNewMemory(t *testing.T) {
	for _, by := range [][2]int{{1, 2}, {2, 2}, {2, 8}, {64, 2}} {
		x := made(t, by[0], by[1])
		l := numbered(0, 7)
		for i, d := range l {
			add(t, x, d)
			sizes := modelSizes(by[0], by[1], i+1)
			early := x.Segments()
			earlyFound, _ := x.Find(all, i+1)
			for n := range sizes {
				p, _ := x.Bytes(n)
				spoil(p, '!')
			}
			found, _ := x.Find(all, i+1)
			spoil(found, api.Doc{ID: "spoilt"})
			some, _ := x.Find(word("k=1"), i+1)
			spoil(some, api.Doc{ID: "spoilt"})
			spoil(x.Segments(), 99)
			checkWhole(t, x, sizes, l[:i+1])
			checkFind(t, x, all, i+1, modelFind(all, l[:i+1])...)
			if !slices.Equal(early, sizes) || !slices.Equal(earlyFound, modelFind(all, l[:i+1])) {
				t.Errorf("earlier answers are %v, %v", early, earlyFound)
			}
			spoil(early, 99)
			spoil(earlyFound, api.Doc{ID: "spoilt"})
		}
		checkWhole(t, x, modelSizes(by[0], by[1], 7), l)
	}
}

func TestAnswersStay(t *testing.T) {
	x := made(t, 1, 2)
	l := numbered(0, 9)
	add(t, x, l[:3]...)
	found, _ := x.Find(all, 3)
	sizes := x.Segments()
	p, _ := x.Bytes(0)
	before := string(p)
	add(t, x, l[3:]...)
	if !slices.Equal(found, modelFind(all, l[:3])) || !slices.Equal(sizes, []int{2, 1}) || string(p) != before {
		t.Errorf("the answers are %v, %v, %q", found, sizes, p)
	}
}
