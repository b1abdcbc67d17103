package merge_test

import (
	"math/rand"
	"slices"
	"strconv"
	"strings"
	"testing"

	"fascine/api"
	"fascine/merge"
)

// The model: all entries in one list, put in order by what the chapter tells of each: its time, its ID, which list it is of, where it stands there.

type placed struct {
	doc      api.Doc
	list, at int
}

// ahead: below 0: a stands ahead of b, told by times and IDs alone.
func ahead(a, b api.Doc) int {
	switch {
	case a.Time < b.Time:
		return -1
	case a.Time > b.Time:
		return 1
	}
	return strings.Compare(a.ID, b.ID)
}

func modelMerge(l [][]api.Doc, limit int) ([]api.Doc, bool, api.Errno) {
	if limit < 0 {
		return nil, false, api.ErrArg
	}
	var all []placed
	for i, list := range l {
		for j, d := range list {
			if j > 0 && ahead(list[j-1], d) > 0 {
				return nil, false, api.ErrForm
			}
			all = append(all, placed{d, i, j})
		}
	}
	slices.SortFunc(all, func(a, b placed) int {
		if n := ahead(a.doc, b.doc); n != 0 {
			return n
		}
		if a.list != b.list {
			return a.list - b.list
		}
		return a.at - b.at
	})
	var first []api.Doc
	for i, p := range all {
		if i < limit {
			first = append(first, p.doc)
		}
	}
	return first, len(all) > limit, api.OK
}

func holdMergeAgainstModel(t *testing.T, l [][]api.Doc, limit int) api.Errno {
	t.Helper()
	got, more, e := merge.Merge(l, limit)
	want, wantMore, wantE := modelMerge(l, limit)
	if !slices.Equal(got, want) || more != wantMore || e != wantE {
		t.Fatalf("Merge(%v, %d) = %v, %v, %d, want %v, %v, %d", l, limit, got, more, e, want, wantMore, wantE)
	}
	return e
}

func holdBehindAgainstModel(t *testing.T, l []api.Doc, time int64, id string) {
	t.Helper()
	var want []api.Doc
	for _, d := range l {
		if d.Time > time || d.Time == time && d.ID > id {
			want = append(want, d)
		}
	}
	if got := merge.Behind(l, time, id); !slices.Equal(got, want) {
		t.Fatalf("Behind(%v, %d, %s) = %v, want %v", l, time, id, got, want)
	}
}

// shortLists: all lists of at most two entries of four.
func shortLists() [][]api.Doc {
	four := []api.Doc{{Time: 0, ID: "a"}, {Time: 0, ID: "b"}, {Time: 1, ID: "a"}, {Time: 1, ID: "b"}}
	l := [][]api.Doc{nil}
	for _, a := range four {
		l = append(l, []api.Doc{a})
		for _, b := range four {
			l = append(l, []api.Doc{a, b})
		}
	}
	return l
}

// named: the list with texts that tell which one it is, and where its entries stand.
func named(l []api.Doc, list int) []api.Doc {
	l = slices.Clone(l)
	for i := range l {
		l[i].Text = strconv.Itoa(list) + "." + strconv.Itoa(i)
	}
	return l
}

// P17.1: three lists of at most two entries, whichever they are, with each limit.
func TestAllShortLists(t *testing.T) {
	short := shortLists()
	for _, a := range short {
		for _, b := range short {
			for _, c := range short {
				l := [][]api.Doc{named(a, 0), named(b, 1), named(c, 2)}
				for limit := -1; limit <= 7; limit++ {
					holdMergeAgainstModel(t, l, limit)
				}
			}
		}
	}
}

// P17.2: likewise.
func TestBehindOfAllShortLists(t *testing.T) {
	for _, a := range shortLists() {
		for _, b := range shortLists() {
			for time := int64(-1); time <= 2; time++ {
				for _, id := range []string{"", "a", "aa", "b", "c"} {
					holdBehindAgainstModel(t, append(named(a, 0), named(b, 1)...), time, id)
				}
			}
		}
	}
}

// someList: entries by chance, mostly in order.
func someList(r *rand.Rand, list int) []api.Doc {
	var l []api.Doc
	wide := 1 + r.Intn(8)
	for range r.Intn(12) {
		d := api.Doc{Time: int64(r.Intn(wide) - wide/2), ID: strings.Repeat("ab"[r.Intn(2):][:1], 1+r.Intn(2))}
		if r.Intn(20) == 0 {
			d.Time = int64(r.Uint64())
		}
		l = append(l, d)
	}
	if r.Intn(30) > 0 {
		slices.SortFunc(l, ahead)
	}
	return named(l, list)
}

func TestListsByChance(t *testing.T) {
	r := rand.New(rand.NewSource(1))
	var wrong int
	for range 40000 {
		var l [][]api.Doc
		for i := range r.Intn(10) {
			l = append(l, someList(r, i))
		}
		if holdMergeAgainstModel(t, l, r.Intn(60)-1) == api.ErrForm {
			wrong++
		}
		list := someList(r, 0)
		holdBehindAgainstModel(t, list, int64(r.Intn(7)-3), "ab"[:r.Intn(3)])
		// The entries themselves as places.
		for _, d := range list {
			holdBehindAgainstModel(t, list, d.Time, d.ID)
		}
	}
	if wrong < 1000 || wrong > 20000 {
		t.Errorf("%d of 40000 were not in order: little was tried", wrong)
	}
}

// Merged bit by bit: what a page ends with is where the next one goes on, if no two stand together.
func TestPageByPage(t *testing.T) {
	r := rand.New(rand.NewSource(2))
	for range 2000 {
		var l [][]api.Doc
		many := 0
		for range 1 + r.Intn(5) {
			var list []api.Doc
			for range r.Intn(10) {
				list = append(list, api.Doc{Time: int64(r.Intn(4)), ID: strconv.Itoa(many)})
				many++
			}
			slices.SortFunc(list, ahead)
			l = append(l, list)
		}
		all, _, _ := merge.Merge(l, many)
		limit := 1 + r.Intn(5)
		var pages []api.Doc
		page, more, _ := merge.Merge(l, limit)
		pages = append(pages, page...)
		for more {
			last := page[len(page)-1]
			for i := range l {
				l[i] = merge.Behind(l[i], last.Time, last.ID)
			}
			page, more, _ = merge.Merge(l, limit)
			pages = append(pages, page...)
		}
		if len(all) != many || !slices.Equal(pages, all) {
			t.Fatalf("page by page %v, at once %v", pages, all)
		}
	}
}
