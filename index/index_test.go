package index_test

import (
	"bytes"
	"math"
	"slices"
	"strconv"
	"strings"
	"testing"

	"fascine/api"
	"fascine/index"
	"fascine/seg"
)

// The signatures that the chapter lists.
var (
	_ func(flush, merge int) (*index.Index, api.Errno)                = index.New
	_ func(*index.Index, api.Doc) (int, api.Errno)                    = (*index.Index).Add
	_ func(*index.Index) int                                          = (*index.Index).Len
	_ func(*index.Index) []int                                        = (*index.Index).Segments
	_ func(*index.Index, int) ([]byte, api.Errno)                     = (*index.Index).Bytes
	_ func(x *index.Index, id string) (int, api.Errno)                = (*index.Index).Get
	_ func(x *index.Index, q api.Query, n int) ([]api.Doc, api.Errno) = (*index.Index).Find
)

var all = api.Query{Kind: api.QAll}

func word(s string) api.Query { return api.Query{Kind: api.QWord, Text: s} }

func not(kids ...api.Query) api.Query { return api.Query{Kind: api.QNot, Kids: kids} }

func made(t *testing.T, flush, merge int) *index.Index {
	t.Helper()
	x, e := index.New(flush, merge)
	if x == nil || e != api.OK {
		t.Fatalf("New(%d, %d): none: %v, %d", flush, merge, x == nil, e)
	}
	return x
}

// add: an entry is added and gets the next number.
func add(t *testing.T, x *index.Index, l ...api.Doc) {
	t.Helper()
	for _, d := range l {
		want := x.Len()
		if n, e := x.Add(d); n != want || e != api.OK {
			t.Fatalf("Add(%q) = %d, %d, want %d", d.ID, n, e, want)
		}
	}
}

// numbered: entries whose IDs are these numbers, later ones ahead of earlier ones.
func numbered(from, many int) []api.Doc {
	var l []api.Doc
	for i := from; i < from+many; i++ {
		l = append(l, api.Doc{ID: "n" + strconv.Itoa(i), Time: int64(-i), Text: "red k=" + strconv.Itoa(i%3)})
	}
	return l
}

func ids(l []api.Doc) []string {
	var s []string
	for _, d := range l {
		s = append(s, d.ID)
	}
	return s
}

func checkAdd(t *testing.T, x *index.Index, d api.Doc, want int, e api.Errno) {
	t.Helper()
	if n, got := x.Add(d); n != want || got != e {
		t.Errorf("Add(%.40q, %d bytes of text) = %d, %d, want %d, %d", d.ID, len(d.Text), n, got, want, e)
	}
}

func checkSegments(t *testing.T, x *index.Index, want ...int) {
	t.Helper()
	if got := x.Segments(); !slices.Equal(got, want) {
		t.Errorf("of %d entries Segments = %v, want %v", x.Len(), got, want)
	}
}

func checkBytes(t *testing.T, x *index.Index, i int, l []api.Doc) {
	t.Helper()
	want, _ := seg.Build(l)
	if got, e := x.Bytes(i); !bytes.Equal(got, want) || e != api.OK {
		t.Errorf("Bytes(%d) = %.80q, %d, want %.80q", i, got, e, want)
	}
}

func checkNoBytes(t *testing.T, x *index.Index, numbers ...int) {
	t.Helper()
	for _, i := range numbers {
		if got, e := x.Bytes(i); len(got) != 0 || e != api.ErrNone {
			t.Errorf("Bytes(%d) = %.80q, %d", i, got, e)
		}
	}
}

func checkGet(t *testing.T, x *index.Index, id string, want int, e api.Errno) {
	t.Helper()
	if n, got := x.Get(id); n != want || got != e {
		t.Errorf("Get(%q) = %d, %d, want %d, %d", id, n, got, want, e)
	}
}

func checkFind(t *testing.T, x *index.Index, q api.Query, upto int, want ...api.Doc) {
	t.Helper()
	if got, e := x.Find(q, upto); !slices.Equal(got, want) || e != api.OK {
		t.Errorf("Find(kind %d, %d) = %.20v, %d, want %.20v", q.Kind, upto, ids(got), e, ids(want))
	}
}

func checkNotFound(t *testing.T, x *index.Index, upto int) {
	t.Helper()
	if got, e := x.Find(all, upto); len(got) != 0 || e != api.ErrArg {
		t.Errorf("Find(all, %d) of %d = %v, %d", upto, x.Len(), got, e)
	}
}

// P10.1

func TestNew(t *testing.T) {
	for _, flush := range []int{math.MinInt, -64, -1, 0, 1, 2, 63, 64, 65, 66, 1 << 32, math.MaxInt} {
		for _, merge := range []int{math.MinInt, -8, -2, -1, 0, 1, 2, 3, 7, 8, 9, 10, 1 << 32, math.MaxInt} {
			want := api.ErrArg
			if 1 <= flush && flush <= 64 && 2 <= merge && merge <= 8 {
				want = api.OK
			}
			x, e := index.New(flush, merge)
			if e != want || (x != nil) != (want == api.OK) {
				t.Errorf("New(%d, %d): one: %v, %d, want %d", flush, merge, x != nil, e, want)
			}
		}
	}
}

func TestNewHasNoEntries(t *testing.T) {
	x := made(t, 1, 2)
	if n := x.Len(); n != 0 {
		t.Errorf("Len = %d", n)
	}
	checkSegments(t, x)
	checkNoBytes(t, x, 0)
	checkGet(t, x, "", 0, api.ErrNone)
	checkGet(t, x, "a", 0, api.ErrNone)
	checkFind(t, x, all, 0)
	checkNotFound(t, x, 1)
}

func TestTwoShareNothing(t *testing.T) {
	x, y := made(t, 1, 2), made(t, 1, 2)
	add(t, x, numbered(0, 3)...)
	if n := y.Len(); n != 0 {
		t.Errorf("Len of the other = %d", n)
	}
	checkSegments(t, y)
	checkAdd(t, y, api.Doc{ID: "n2"}, 0, api.OK)
}

// P10.2

func TestAddNumbers(t *testing.T) {
	x := made(t, 3, 2)
	for i, d := range numbered(0, 20) {
		checkAdd(t, x, d, i, api.OK)
		if n := x.Len(); n != i+1 {
			t.Errorf("Len = %d behind %d", n, i+1)
		}
	}
}

func TestAddOfWhatIsNoEntry(t *testing.T) {
	x := made(t, 2, 2)
	add(t, x, api.Doc{ID: "a"})
	wrong := []api.Doc{
		{}, {Text: "red"}, {ID: " "}, {ID: "a b"}, {ID: "\x7f"}, {ID: "a\n"}, {ID: "é"}, {ID: "\x20a"}, {ID: "a\xff"},
		{ID: strings.Repeat("a", api.MaxName+1)},
		{ID: "b", Text: strings.Repeat("x", api.MaxText+1)},
		// One of that ID is there, but this is none.
		{ID: "a", Text: strings.Repeat("x", api.MaxText+1)},
	}
	for _, d := range wrong {
		checkAdd(t, x, d, 0, api.ErrForm)
	}
	if n := x.Len(); n != 1 {
		t.Errorf("Len = %d", n)
	}
	checkSegments(t, x)
	checkGet(t, x, "b", 0, api.ErrNone)
	checkGet(t, x, "", 0, api.ErrNone)
	right := []api.Doc{
		{ID: "!~", Time: math.MinInt64},
		{ID: strings.Repeat("a", api.MaxName), Time: math.MaxInt64},
		{ID: "b", Text: strings.Repeat("x", api.MaxText)},
		{ID: "c", Text: "\xff\x00 é"},
	}
	add(t, x, right...)
	checkFind(t, x, all, 5, right[0], api.Doc{ID: "a"}, right[2], right[3], right[1])
}

func TestAddOfAnIDAgain(t *testing.T) {
	x := made(t, 2, 2)
	l := numbered(0, 7)
	add(t, x, l...)
	for i, d := range l {
		// With the same time and text, and with others.
		checkAdd(t, x, d, i, api.ErrExists)
		checkAdd(t, x, api.Doc{ID: d.ID, Time: 99, Text: "other"}, i, api.ErrExists)
	}
	if n := x.Len(); n != 7 {
		t.Errorf("Len = %d", n)
	}
	checkSegments(t, x, 4, 2)
	checkFind(t, x, word("other"), 7)
	slices.Reverse(l)
	checkFind(t, x, all, 7, l...)
	// IDs are told apart by their bytes.
	checkAdd(t, x, api.Doc{ID: "N0"}, 7, api.OK)
	checkAdd(t, x, api.Doc{ID: "n"}, 8, api.OK)
	checkAdd(t, x, api.Doc{ID: "n00"}, 9, api.OK)
}

func TestAddToAFullOne(t *testing.T) {
	for _, by := range [][2]int{{1, 2}, {64, 8}, {63, 7}} {
		x := made(t, by[0], by[1])
		l := numbered(0, api.MaxDocs)
		add(t, x, l[:api.MaxDocs-1]...)
		checkAdd(t, x, l[api.MaxDocs-1], api.MaxDocs-1, api.OK)
		sizes := x.Segments()
		for range 2 {
			checkAdd(t, x, api.Doc{ID: "new"}, 0, api.ErrFull)
		}
		// The other errors go first.
		checkAdd(t, x, api.Doc{ID: "n4095", Text: "other"}, api.MaxDocs-1, api.ErrExists)
		checkAdd(t, x, api.Doc{ID: "n0"}, 0, api.ErrExists)
		checkAdd(t, x, api.Doc{ID: "n e w"}, 0, api.ErrForm)
		if n := x.Len(); n != api.MaxDocs {
			t.Errorf("Len = %d", n)
		}
		checkSegments(t, x, sizes...)
		checkGet(t, x, "new", 0, api.ErrNone)
		slices.Reverse(l)
		checkFind(t, x, all, api.MaxDocs, l...)
		checkNotFound(t, x, api.MaxDocs+1)
	}
}

// P10.3

func TestSegmentsOfTheExample(t *testing.T) {
	x := made(t, 2, 2)
	sizes := [][]int{nil, {2}, {2}, {4}, {4}, {4, 2}, {4, 2}, {8}, {8}, {8, 2}}
	for i, d := range numbered(0, 10) {
		add(t, x, d)
		checkSegments(t, x, sizes[i]...)
	}
}

func TestSegmentsOfOtherNumbers(t *testing.T) {
	rows := []struct {
		flush, merge, many int
		want               []int
	}{
		{1, 2, 1, []int{1}},
		{1, 2, 7, []int{4, 2, 1}},
		{1, 2, 8, []int{8}},
		{1, 3, 2, []int{1, 1}},
		{1, 3, 3, []int{3}},
		{1, 3, 8, []int{3, 3, 1, 1}},
		{1, 3, 9, []int{9}},
		{1, 3, 26, []int{9, 9, 3, 3, 1, 1}},
		{1, 8, 7, []int{1, 1, 1, 1, 1, 1, 1}},
		{1, 8, 8, []int{8}},
		{5, 2, 4, nil},
		{5, 2, 9, []int{5}},
		{5, 2, 16, []int{10, 5}},
		{64, 8, 63, nil},
		{64, 8, 64, []int{64}},
		{64, 8, 511, []int{64, 64, 64, 64, 64, 64, 64}},
		{64, 8, 512, []int{512}},
		{64, 8, 4095, []int{512, 512, 512, 512, 512, 512, 512, 64, 64, 64, 64, 64, 64, 64}},
		{64, 8, 4096, []int{4096}},
		{1, 2, 4095, []int{2048, 1024, 512, 256, 128, 64, 32, 16, 8, 4, 2, 1}},
		{1, 2, 4096, []int{4096}},
	}
	for _, r := range rows {
		x := made(t, r.flush, r.merge)
		add(t, x, numbered(0, r.many)...)
		checkSegments(t, x, r.want...)
	}
}

func TestBytes(t *testing.T) {
	x := made(t, 2, 3)
	l := numbered(0, 17)
	add(t, x, l...)
	checkSegments(t, x, 6, 6, 2, 2)
	// In the order of their numbers, not of their times.
	checkBytes(t, x, 0, l[:6])
	checkBytes(t, x, 1, l[6:12])
	checkBytes(t, x, 2, l[12:14])
	checkBytes(t, x, 3, l[14:16])
	checkNoBytes(t, x, -1, 4, 5, math.MinInt, math.MaxInt)
	s, e := seg.Open(must(x.Bytes(2)))
	if e != api.OK || s.Len() != 2 {
		t.Errorf("Open of the bytes: %d entries, %d", s.Len(), e)
	}
}

func must(p []byte, e api.Errno) []byte {
	if e != api.OK {
		panic(e)
	}
	return p
}

func TestBytesAsLaidDown(t *testing.T) {
	x := made(t, 1, 2)
	add(t, x, api.Doc{ID: "b", Time: 1, Text: "Red"}, api.Doc{ID: "a", Time: -1, Text: "red"})
	body := "SEG1\x02\x01b\x02\x03Red\x01a\x01\x03red\x01\x03red\x02\x00\x00"
	if got, e := x.Bytes(0); e != api.OK || len(got) != len(body)+4 || string(got[:len(body)]) != body {
		t.Errorf("Bytes = %q, %d, want %q and its sum", got, e, body)
	}
}

// P10.4

func TestLenAndGet(t *testing.T) {
	x := made(t, 2, 2)
	for i, d := range numbered(0, 9) {
		checkGet(t, x, d.ID, 0, api.ErrNone)
		add(t, x, d)
		for j := range i + 1 {
			checkGet(t, x, "n"+strconv.Itoa(j), j, api.OK)
		}
	}
	for _, id := range []string{"", "n", "n9", "N1", "n1 ", " n1", "n01", strings.Repeat("n", 1000), "\xff"} {
		checkGet(t, x, id, 0, api.ErrNone)
	}
}

func TestFind(t *testing.T) {
	l := []api.Doc{
		{ID: "e", Time: 5, Text: "Red"},
		{ID: "d", Time: 1, Text: "blue k=v"},
		{ID: "c", Time: 5, Text: "red k=v"},
		{ID: "b", Time: -3, Text: ""},
		{ID: "a", Time: 1, Text: "RED-blue"},
		{ID: "B", Time: 1, Text: "red"},
		{ID: "f", Time: 0, Text: "k=v"},
	}
	e, d, c, b, a, B, f := l[0], l[1], l[2], l[3], l[4], l[5], l[6]
	for _, by := range [][2]int{{1, 2}, {2, 2}, {1, 8}, {4, 3}, {7, 2}, {64, 2}} {
		x := made(t, by[0], by[1])
		add(t, x, l...)
		checkFind(t, x, all, 7, b, f, B, a, d, c, e)
		checkFind(t, x, word("red"), 7, B, a, c, e)
		checkFind(t, x, word("Red"), 7)
		checkFind(t, x, api.Query{Kind: api.QPair, Text: "k=v"}, 7, f, d, c)
		checkFind(t, x, not(word("red")), 7, b, f, d)
		checkFind(t, x, not(), 7)
		checkFind(t, x, api.Query{Kind: api.QAfter, N: 0}, 7, B, a, d, c, e)
		checkFind(t, x, api.Query{Kind: api.QBefore, N: 1}, 7, b, f)
		checkFind(t, x, api.Query{Kind: api.QAnd}, 7, b, f, B, a, d, c, e)
		checkFind(t, x, api.Query{Kind: api.QOr}, 7)
		checkFind(t, x, api.Query{Kind: api.QOr, Kids: []api.Query{word("blue"), {Kind: api.QBefore, N: 0}}}, 7, b, a, d)
		checkFind(t, x, api.Query{Kind: 8}, 7)
		checkFind(t, x, api.Query{Kind: 255, Kids: []api.Query{all}}, 7)
	}
}

func TestFindUpTo(t *testing.T) {
	for _, by := range [][2]int{{1, 2}, {2, 2}, {3, 3}, {1, 8}, {64, 8}} {
		x := made(t, by[0], by[1])
		l := numbered(0, 23)
		add(t, x, l...)
		for upto := range 24 {
			want := slices.Clone(l[:upto])
			slices.Reverse(want)
			checkFind(t, x, all, upto, want...)
		}
		for _, upto := range []int{-1, -23, math.MinInt, 24, 25, math.MaxInt} {
			checkNotFound(t, x, upto)
		}
	}
}

// Nil objects

func TestOfNil(t *testing.T) {
	var x *index.Index
	checkAdd(t, x, api.Doc{ID: "a"}, 0, api.ErrNone)
	checkAdd(t, x, api.Doc{}, 0, api.ErrNone)
	if n := x.Len(); n != 0 {
		t.Errorf("Len = %d", n)
	}
	checkSegments(t, x)
	checkNoBytes(t, x, -1, 0, 1)
	checkGet(t, x, "", 0, api.ErrNone)
	checkGet(t, x, "a", 0, api.ErrNone)
	for _, upto := range []int{-1, 0, 1} {
		if l, e := x.Find(all, upto); len(l) != 0 || e != api.ErrNone {
			t.Errorf("Find(all, %d) = %v, %d", upto, l, e)
		}
	}
}
