package post_test

import (
	"bytes"
	"math"
	"math/rand"
	"slices"
	"testing"

	"fascine/api"
	"fascine/pack"
	"fascine/post"
)

// The signatures that the chapter lists.
var (
	_ func([]int) ([]byte, api.Errno)                = post.Encode
	_ func([]byte, int, int) ([]int, int, api.Errno) = post.Decode
	_ func(a, b []int) []int                         = post.And
	_ func(a, b []int) []int                         = post.Or
	_ func(a, b []int) []int                         = post.Less
)

func checkEncode(t *testing.T, l []int, want []byte, e api.Errno) {
	t.Helper()
	got, gotE := post.Encode(l)
	if !bytes.Equal(got, want) || gotE != e {
		t.Errorf("Encode(%v) = %x, %d, want %x, %d", l, got, gotE, want, e)
	}
}

func checkDecode(t *testing.T, p []byte, at, below int, l []int, behind int, e api.Errno) {
	t.Helper()
	got, gotN, gotE := post.Decode(p, at, below)
	if !slices.Equal(got, l) || gotN != behind || gotE != e {
		t.Errorf("Decode(%x, %d, %d) = %v, %d, %d, want %v, %d, %d", p, at, below, got, gotN, gotE, l, behind, e)
	}
}

func checkSets(t *testing.T, a, b, and, or, less []int) {
	t.Helper()
	if got := post.And(a, b); !slices.Equal(got, and) {
		t.Errorf("And(%v, %v) = %v, want %v", a, b, got, and)
	}
	if got := post.Or(a, b); !slices.Equal(got, or) {
		t.Errorf("Or(%v, %v) = %v, want %v", a, b, got, or)
	}
	if got := post.Less(a, b); !slices.Equal(got, less) {
		t.Errorf("Less(%v, %v) = %v, want %v", a, b, got, less)
	}
}

// bytesOf: numbers as pack.Uvarint writes them, one behind the other.
func bytesOf(l ...uint64) []byte {
	var p []byte
	for _, v := range l {
		p = append(p, pack.Uvarint(v)...)
	}
	return p
}

// subset: the numbers whose bits are 1.
func subset(bits int) []int {
	var l []int
	for i := range 63 {
		if bits>>i&1 == 1 {
			l = append(l, i)
		}
	}
	return l
}

// rising: many numbers by chance, far apart or near.
func rising(r *rand.Rand, many, step int) []int {
	var l []int
	last := -1
	for range many {
		last += 1 + r.Intn(step)
		l = append(l, last)
	}
	return l
}

// P8.1

func TestEncode(t *testing.T) {
	checkEncode(t, []int{0, 1, 5}, []byte{3, 0, 0, 3}, api.OK)
	checkEncode(t, nil, []byte{0}, api.OK)
	checkEncode(t, []int{}, []byte{0}, api.OK)
	checkEncode(t, []int{0}, []byte{1, 0}, api.OK)
	checkEncode(t, []int{7}, []byte{1, 7}, api.OK)
	checkEncode(t, []int{127, 128, 256}, []byte{3, 0x7f, 0, 0x7f}, api.OK)
	checkEncode(t, []int{128, 257, 558}, []byte{3, 0x80, 1, 0x80, 1, 0xac, 2}, api.OK)
	checkEncode(t, []int{math.MaxInt}, bytesOf(1, math.MaxInt), api.OK)
	checkEncode(t, []int{0, math.MaxInt}, bytesOf(2, 0, math.MaxInt-1), api.OK)
	checkEncode(t, []int{math.MaxInt - 1, math.MaxInt}, bytesOf(2, math.MaxInt-1, 0), api.OK)
}

func TestEncodeTellsHowMany(t *testing.T) {
	for _, n := range []int{127, 128, 300, 1 << 14} {
		l := make([]int, n)
		for i := range l {
			l[i] = i
		}
		checkEncode(t, l, append(pack.Uvarint(uint64(n)), make([]byte, n)...), api.OK)
	}
}

func TestEncodeRefuses(t *testing.T) {
	for _, l := range [][]int{
		{-1}, {-2}, {math.MinInt}, {-1, 0}, {-5, 3, 4}, {0, -1}, {5, math.MinInt}, {math.MinInt, math.MaxInt},
		{0, 0}, {1, 1}, {1, 0}, {0, 1, 1}, {0, 1, 2, 1}, {0, 5, 3, 9}, {math.MaxInt, math.MaxInt}, {math.MaxInt, 0}, {math.MaxInt, -1},
	} {
		checkEncode(t, l, nil, api.ErrForm)
	}
}

// P8.2

func TestDecodeOfTheChapter(t *testing.T) {
	p := []byte{3, 0, 0, 3}
	checkDecode(t, p, 0, 6, []int{0, 1, 5}, 4, api.OK)
	checkDecode(t, p, 0, 5, nil, 0, api.ErrRange)
}

func TestDecodeReadsWhatEncodeWrites(t *testing.T) {
	r := rand.New(rand.NewSource(8))
	lists := [][]int{nil, {0}, {math.MaxInt - 1}, {0, math.MaxInt - 1}, {math.MaxInt - 2, math.MaxInt - 1}, {5, 1 << 40, 1<<40 + 1}}
	for range 500 {
		lists = append(lists, rising(r, r.Intn(40), 1+1<<r.Intn(40)))
	}
	for _, l := range lists {
		p, e := post.Encode(l)
		if e != api.OK {
			t.Fatalf("Encode(%v): %d", l, e)
		}
		below := 0
		if len(l) > 0 {
			below = l[len(l)-1] + 1
			checkDecode(t, p, 0, below-1, nil, 0, api.ErrRange)
		}
		checkDecode(t, p, 0, below, l, len(p), api.OK)
		checkDecode(t, p, 0, math.MaxInt, l, len(p), api.OK)
		// Among other bytes: none of them counts.
		front := []byte{0xff, 0x80, 1}
		whole := append(append(slices.Clone(front), p...), 0xff, 0, 0x80)
		checkDecode(t, whole, len(front), below, l, len(front)+len(p), api.OK)
		// Cut short anywhere it isn't whole.
		for n := range len(p) {
			checkDecode(t, p[:n], 0, below, nil, 0, api.ErrForm)
		}
	}
}

func TestDecodePlaces(t *testing.T) {
	p := []byte{1, 4, 2, 0, 0, 0}
	for _, at := range []int{math.MinInt, -1, 7, math.MaxInt} {
		checkDecode(t, p, at, 9, nil, 0, api.ErrArg)
		checkDecode(t, p, at, -1, nil, 0, api.ErrArg)
	}
	checkDecode(t, p, 0, 9, []int{4}, 2, api.OK)
	checkDecode(t, p, 1, 9, []int{2, 3, 4, 5}, 6, api.OK)
	checkDecode(t, p, 2, 9, []int{0, 1}, 5, api.OK)
	checkDecode(t, p, 3, 9, nil, 4, api.OK)
	checkDecode(t, p, 5, 9, nil, 6, api.OK)
	checkDecode(t, p, 6, 9, nil, 0, api.ErrForm)
	checkDecode(t, nil, 0, 9, nil, 0, api.ErrForm)
	checkDecode(t, nil, 1, 9, nil, 0, api.ErrArg)
}

func TestDecodeBound(t *testing.T) {
	checkDecode(t, []byte{0}, 0, 0, nil, 1, api.OK)
	checkDecode(t, []byte{1, 0}, 0, 0, nil, 0, api.ErrRange)
	checkDecode(t, []byte{1, 0}, 0, 1, []int{0}, 2, api.OK)
	checkDecode(t, []byte{1, 1}, 0, 1, nil, 0, api.ErrRange)
	checkDecode(t, []byte{2, 0, 0}, 0, 2, []int{0, 1}, 3, api.OK)
	checkDecode(t, []byte{2, 0, 1}, 0, 2, nil, 0, api.ErrRange)
	checkDecode(t, []byte{2, 1, 0}, 0, 2, nil, 0, api.ErrRange)
	for _, below := range []int{-1, -2, math.MinInt} {
		checkDecode(t, []byte{0}, 0, below, nil, 0, api.ErrRange)
		checkDecode(t, []byte{1, 0}, 0, below, nil, 0, api.ErrRange)
		checkDecode(t, bytesOf(math.MaxUint64), 0, below, nil, 0, api.ErrRange)
	}
	// Steps that fit into no int, or make a number that doesn't.
	for _, step := range []uint64{math.MaxInt - 1, math.MaxInt, math.MaxInt + 1, math.MaxUint64 - 1, math.MaxUint64} {
		checkDecode(t, bytesOf(2, 0, step), 0, math.MaxInt, nil, 0, api.ErrRange)
		checkDecode(t, bytesOf(2, math.MaxInt-1, step), 0, math.MaxInt, nil, 0, api.ErrRange)
	}
	checkDecode(t, bytesOf(1, math.MaxInt), 0, math.MaxInt, nil, 0, api.ErrRange)
	checkDecode(t, bytesOf(1, math.MaxUint64), 0, math.MaxInt, nil, 0, api.ErrRange)
}

func TestDecodeTellsTheFirstFault(t *testing.T) {
	// How many there are is asked behind how it is written, ahead of the numbers.
	checkDecode(t, []byte{0x80, 0}, 0, -1, nil, 0, api.ErrForm)
	checkDecode(t, []byte{0x80}, 0, -1, nil, 0, api.ErrForm)
	checkDecode(t, []byte{3}, 0, 2, nil, 0, api.ErrRange)
	checkDecode(t, []byte{3}, 0, 3, nil, 0, api.ErrForm)
	checkDecode(t, []byte{3, 0x80, 0}, 0, 2, nil, 0, api.ErrRange)
	// A number out of its range ahead of one that isn't written right, and the other way about.
	checkDecode(t, []byte{2, 9, 0x80, 0}, 0, 9, nil, 0, api.ErrRange)
	checkDecode(t, []byte{2, 0x80, 0, 9}, 0, 9, nil, 0, api.ErrForm)
	checkDecode(t, []byte{3, 9}, 0, 9, nil, 0, api.ErrRange)
	checkDecode(t, []byte{3, 8}, 0, 9, nil, 0, api.ErrForm)
	checkDecode(t, []byte{3, 8, 0}, 0, 9, nil, 0, api.ErrRange)
	checkDecode(t, []byte{1, 0x89, 0}, 0, 9, nil, 0, api.ErrForm)
	checkDecode(t, []byte{1, 0xff, 0xff, 0xff, 0xff, 0xff, 0xff, 0xff, 0xff, 0xff, 2}, 0, 9, nil, 0, api.ErrForm)
}

func TestDecodeMakesNoRoomForWhatIsNotThere(t *testing.T) {
	for _, many := range []uint64{1 << 32, 1 << 48, 1 << 62, math.MaxInt} {
		checkDecode(t, bytesOf(many), 0, math.MaxInt, nil, 0, api.ErrForm)
		checkDecode(t, bytesOf(many, 0, 0), 0, math.MaxInt, nil, 0, api.ErrForm)
	}
	checkDecode(t, bytesOf(math.MaxInt+1), 0, math.MaxInt, nil, 0, api.ErrRange)
	checkDecode(t, bytesOf(math.MaxUint64), 0, math.MaxInt, nil, 0, api.ErrRange)
}

// P8.3

func TestSetsOfTheChapter(t *testing.T) {
	checkSets(t, []int{1, 3, 5}, []int{3, 4, 5}, []int{3, 5}, []int{1, 3, 4, 5}, []int{1})
}

func TestSetsOfNone(t *testing.T) {
	l := []int{-4, 0, 7}
	checkSets(t, nil, nil, nil, nil, nil)
	checkSets(t, l, nil, nil, l, l)
	checkSets(t, nil, l, nil, l, nil)
	checkSets(t, []int{}, l, nil, l, nil)
	checkSets(t, l, l, l, l, nil)
}

func TestSetsOfGreatNumbers(t *testing.T) {
	// Lists that rise may have numbers below 0; no two are taken from one another.
	a, b := []int{math.MinInt, -1, math.MaxInt}, []int{math.MinInt + 1, -1, math.MaxInt - 1}
	checkSets(t, a, b, []int{-1}, []int{math.MinInt, math.MinInt + 1, -1, math.MaxInt - 1, math.MaxInt}, []int{math.MinInt, math.MaxInt})
	checkSets(t, b, a, []int{-1}, []int{math.MinInt, math.MinInt + 1, -1, math.MaxInt - 1, math.MaxInt}, []int{math.MinInt + 1, math.MaxInt - 1})
	checkSets(t, []int{math.MinInt}, []int{math.MaxInt}, nil, []int{math.MinInt, math.MaxInt}, []int{math.MinInt})
}

func TestEachTwoSets(t *testing.T) {
	for a := range 1 << 7 {
		for b := range 1 << 7 {
			checkSets(t, subset(a), subset(b), subset(a&b), subset(a|b), subset(a&^b))
		}
	}
}

func TestSetsByChance(t *testing.T) {
	r := rand.New(rand.NewSource(88))
	for range 500 {
		a, b := rising(r, r.Intn(200), 1+r.Intn(9)), rising(r, r.Intn(200), 1+r.Intn(9))
		in := map[int]int{}
		for _, n := range a {
			in[n] |= 1
		}
		for _, n := range b {
			in[n] |= 2
		}
		var and, or, less []int
		for n := range 3000 {
			switch in[n] {
			case 1:
				less = append(less, n)
			case 3:
				and = append(and, n)
			}
			if in[n] != 0 {
				or = append(or, n)
			}
		}
		checkSets(t, a, b, and, or, less)
	}
}
