package merge_test

import (
	"fmt"
	"math"
	"slices"
	"testing"

	"fascine/api"
	"fascine/merge"
)

// The signatures that the chapter lists.
var (
	_ func([][]api.Doc, int) ([]api.Doc, bool, api.Errno) = merge.Merge
	_ func([]api.Doc, int64, string) []api.Doc            = merge.Behind
)

// doc: an entry whose text tells it from others that stand with it.
func doc(time int64, id, text string) api.Doc {
	return api.Doc{ID: id, Time: time, Text: text}
}

func checkMerge(t *testing.T, l [][]api.Doc, limit int, want []api.Doc, wantMore bool) {
	t.Helper()
	got, more, e := merge.Merge(l, limit)
	if !slices.Equal(got, want) || more != wantMore || e != api.OK {
		t.Errorf("Merge(%.300v, %d) = %.300v, %v, %d, want %.300v, %v", l, limit, got, more, e, want, wantMore)
	}
}

func checkRefused(t *testing.T, l [][]api.Doc, limit int, want api.Errno) {
	t.Helper()
	if got, more, e := merge.Merge(l, limit); len(got) != 0 || more || e != want {
		t.Errorf("Merge(%v, %d) = %v, %v, %d, want %d", l, limit, got, more, e, want)
	}
}

func checkBehind(t *testing.T, l []api.Doc, time int64, id string, want ...api.Doc) {
	t.Helper()
	if got := merge.Behind(l, time, id); !slices.Equal(got, want) {
		t.Errorf("Behind(%v, %d, %s) = %v, want %v", l, time, id, got, want)
	}
}

// Example 1.
func TestExample(t *testing.T) {
	checkMerge(t, [][]api.Doc{{doc(1, "a", ""), doc(4, "b", "")}, {doc(2, "c", "")}}, 2, []api.Doc{doc(1, "a", ""), doc(2, "c", "")}, true)
	checkBehind(t, []api.Doc{doc(1, "a", ""), doc(2, "b", ""), doc(2, "c", "")}, 2, "b", doc(2, "c", ""))
}

// P17.1

func TestMergeOfEachLimit(t *testing.T) {
	l := [][]api.Doc{
		{doc(1, "a", "0"), doc(4, "b", "0")},
		nil,
		{doc(-7, "z", "2"), doc(4, "a", "2"), doc(4, "c", "2")},
		{doc(math.MinInt64, "~", "3"), doc(math.MaxInt64, "!", "3")},
		{},
		{doc(4, "B", "5")},
	}
	all := []api.Doc{
		doc(math.MinInt64, "~", "3"), doc(-7, "z", "2"), doc(1, "a", "0"), doc(4, "B", "5"),
		doc(4, "a", "2"), doc(4, "b", "0"), doc(4, "c", "2"), doc(math.MaxInt64, "!", "3"),
	}
	for limit := range 8 {
		checkMerge(t, l, limit, all[:limit], true)
	}
	for _, limit := range []int{8, 9, 100, math.MaxInt} {
		checkMerge(t, l, limit, all, false)
	}
}

func TestMergeOfOneListOrNone(t *testing.T) {
	one := []api.Doc{doc(1, "a", ""), doc(1, "b", ""), doc(2, "a", "")}
	for _, l := range [][][]api.Doc{nil, {}, {nil}, {{}}, {nil, {}, nil}} {
		for _, limit := range []int{0, 1, math.MaxInt} {
			checkMerge(t, l, limit, nil, false)
		}
	}
	for _, l := range [][][]api.Doc{{one}, {one, nil}, {nil, one}, {nil, {}, one, nil, nil}} {
		for limit := range 6 {
			checkMerge(t, l, limit, one[:min(limit, 3)], limit < 3)
		}
		checkMerge(t, l, math.MaxInt, one, false)
	}
}

// Of those that stand together those of an earlier list go first, and of one list they stay as they are.
func TestMergeOfThoseThatStandTogether(t *testing.T) {
	l := [][]api.Doc{
		{doc(1, "a", "00"), doc(1, "a", "01"), doc(2, "a", "02")},
		{doc(1, "a", "10"), doc(1, "b", "11"), doc(1, "b", "12")},
		{doc(0, "a", "20"), doc(1, "a", "21"), doc(2, "a", "22")},
		{doc(1, "a", "30"), doc(1, "a", "29"), doc(1, "b", "28")},
	}
	all := []api.Doc{
		doc(0, "a", "20"),
		doc(1, "a", "00"), doc(1, "a", "01"), doc(1, "a", "10"), doc(1, "a", "21"), doc(1, "a", "30"), doc(1, "a", "29"),
		doc(1, "b", "11"), doc(1, "b", "12"), doc(1, "b", "28"),
		doc(2, "a", "02"), doc(2, "a", "22"),
	}
	for limit := range len(all) + 2 {
		checkMerge(t, l, limit, all[:min(limit, len(all))], limit < len(all))
	}
	// Texts have no say, and entries that aren't of the form are put in order too.
	checkMerge(t, [][]api.Doc{{doc(1, "", "z"), doc(1, "", "a")}, {doc(1, "", "m")}}, 9, []api.Doc{doc(1, "", "z"), doc(1, "", "a"), doc(1, "", "m")}, false)
}

func TestMergeRefuses(t *testing.T) {
	right := []api.Doc{doc(1, "a", ""), doc(2, "a", "")}
	for _, wrong := range [][]api.Doc{
		{doc(2, "a", ""), doc(1, "a", "")},
		{doc(1, "b", ""), doc(1, "a", "")},
		{doc(1, "ab", ""), doc(1, "a", "")},
		{doc(1, "a", ""), doc(1, "B", "")},
		{doc(1, "a", ""), doc(2, "a", ""), doc(3, "a", ""), doc(2, "z", "")},
		{doc(0, "", ""), doc(math.MinInt64, "", "")},
		{doc(math.MaxInt64, "a", ""), doc(-1, "a", "")},
	} {
		// Wherever it stands, also where not so many are asked for.
		for _, l := range [][][]api.Doc{{wrong}, {wrong, right}, {right, wrong}, {nil, right, right, wrong, right}} {
			for _, limit := range []int{0, 1, 2, 100, math.MaxInt} {
				checkRefused(t, l, limit, api.ErrForm)
			}
			for _, limit := range []int{-1, math.MinInt} {
				checkRefused(t, l, limit, api.ErrArg)
			}
		}
	}
	for _, limit := range []int{-1, -20, math.MinInt} {
		checkRefused(t, nil, limit, api.ErrArg)
		checkRefused(t, [][]api.Doc{right}, limit, api.ErrArg)
	}
}

// P1: many lists, and long ones, are merged in a moment.
func TestMergeOfMany(t *testing.T) {
	const many = 200000
	var l [][]api.Doc
	var all []api.Doc
	for i := range many {
		d := doc(int64(i), "a", "")
		l = append(l, []api.Doc{d})
		all = append(all, d)
	}
	slices.Reverse(l)
	for _, limit := range []int{0, 1, 1000, many - 1, many, math.MaxInt} {
		checkMerge(t, l, limit, all[:min(limit, many)], limit < many)
	}
	odd, even := []api.Doc{}, []api.Doc{}
	for i := range all {
		if i%2 == 0 {
			even = append(even, all[i])
		} else {
			odd = append(odd, all[i])
		}
	}
	checkMerge(t, [][]api.Doc{odd, even}, many, all, false)
	checkMerge(t, [][]api.Doc{all}, 7, all[:7], true)
}

// P17.2

func TestBehind(t *testing.T) {
	l := []api.Doc{doc(-1, "z", ""), doc(0, "a", ""), doc(0, "b", "1"), doc(0, "b", "2"), doc(0, "c", ""), doc(1, "a", ""), doc(math.MaxInt64, "a", "")}
	for _, c := range []struct {
		time int64
		id   string
		from int
	}{
		{math.MinInt64, "", 0}, {-2, "~", 0}, {-1, "y", 0}, {-1, "z", 1}, {-1, "zz", 1}, {0, "", 1}, {0, "A", 1}, {0, "a", 2}, {0, "aa", 2},
		{0, "b", 4}, {0, "bb", 4}, {0, "c", 5}, {0, "~", 5}, {1, "", 5}, {1, "a", 6}, {2, "", 6}, {math.MaxInt64, "", 6}, {math.MaxInt64, "a", 7}, {math.MaxInt64, "b", 7},
	} {
		checkBehind(t, l, c.time, c.id, l[c.from:]...)
	}
	checkBehind(t, nil, 0, "")
	checkBehind(t, nil, math.MinInt64, "")
}

// A list in whatever order: each is asked by itself.
func TestBehindAsTheyStandThere(t *testing.T) {
	l := []api.Doc{doc(3, "c", ""), doc(1, "a", ""), doc(2, "b", "y"), doc(2, "a", ""), doc(2, "b", "x"), doc(3, "a", ""), doc(2, "c", "")}
	checkBehind(t, l, 2, "b", doc(3, "c", ""), doc(3, "a", ""), doc(2, "c", ""))
	checkBehind(t, l, 2, "a", doc(3, "c", ""), doc(2, "b", "y"), doc(2, "b", "x"), doc(3, "a", ""), doc(2, "c", ""))
	checkBehind(t, l, 0, "z", l...)
	checkBehind(t, l, 3, "c")
}

// The rules on memory

func TestArgumentsAreNotChanged(t *testing.T) {
	room := []api.Doc{doc(1, "a", ""), doc(3, "a", ""), doc(0, "spare", ""), doc(0, "spare", "")}
	other := []api.Doc{doc(2, "b", ""), doc(4, "b", ""), doc(0, "spare", "")}
	was, wasOther := slices.Clone(room), slices.Clone(other)
	for limit := range 6 {
		for _, l := range [][][]api.Doc{{room[:2]}, {room[:2], other[:2]}, {nil, room[:2], nil}, {room[:1], room[1:2], other[:1]}} {
			merge.Merge(l, limit)
		}
	}
	merge.Behind(room[:2], 1, "a")
	if !slices.Equal(room, was) || !slices.Equal(other, wasOther) {
		t.Errorf("an argument was changed: %v %v", room, other)
	}
}

// spoil: writes over an answer and its spare room.
func spoil(l []api.Doc) {
	for i := range l[:cap(l)] {
		l[:cap(l)][i] = doc(9, "!", "!")
	}
}

func TestAnswersAreNewMemory(t *testing.T) {
	a, b := []api.Doc{doc(1, "a", ""), doc(3, "a", "")}, []api.Doc{doc(2, "b", "")}
	for _, l := range [][][]api.Doc{{a}, {a, nil}, {nil, a}, {a, b}, {nil, nil, a, b, nil}} {
		for limit := range 5 {
			before := fmt.Sprint(l)
			got, _, _ := merge.Merge(l, limit)
			again, _, _ := merge.Merge(l, limit)
			told := fmt.Sprint(again)
			spoil(got)
			if fmt.Sprint(l) != before || fmt.Sprint(again) != told {
				t.Errorf("Merge of %v shares memory: %v", before, again)
			}
		}
	}
	for _, time := range []int64{0, 1, 3} {
		got, again := merge.Behind(a, time, "a"), merge.Behind(a, time, "a")
		told := fmt.Sprint(again)
		spoil(got)
		if fmt.Sprint(again) != told || !slices.Equal(a, []api.Doc{doc(1, "a", ""), doc(3, "a", "")}) {
			t.Errorf("Behind shares memory: %v, %v", again, a)
		}
	}
}
