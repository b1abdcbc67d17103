package post_test

import (
	"bytes"
	"math"
	"math/big"
	"math/rand"
	"slices"
	"testing"

	"fascine/api"
	"fascine/pack"
	"fascine/post"
)

// The model: the numbers without a bound, as they are written, then what is asked of each, in their order.

func modelDecode(p []byte, at, below int) ([]int, int, api.Errno) {
	bound := big.NewInt(int64(below))
	many, at, e := pack.ReadUvarint(p, at)
	if e != api.OK {
		return nil, 0, e
	}
	if below < 0 || new(big.Int).SetUint64(many).Cmp(bound) > 0 {
		return nil, 0, api.ErrRange
	}
	var l []int
	next := big.NewInt(0)
	for uint64(len(l)) < many {
		step, to, e := pack.ReadUvarint(p, at)
		if e != api.OK {
			return nil, 0, e
		}
		next.Add(next, new(big.Int).SetUint64(step))
		if next.Cmp(bound) >= 0 {
			return nil, 0, api.ErrRange
		}
		l = append(l, int(next.Int64()))
		next.Add(next, big.NewInt(1))
		at = to
	}
	return l, at, api.OK
}

// holdAgainstModel: also that what Decode takes is what Encode makes, byte by byte.
func holdAgainstModel(t *testing.T, p []byte, at, below int) api.Errno {
	t.Helper()
	l, behind, e := modelDecode(p, at, below)
	checkDecode(t, p, at, below, l, behind, e)
	if e == api.OK {
		checkEncode(t, l, p[at:behind], api.OK)
	}
	return e
}

func TestEachShortRowOfBytes(t *testing.T) {
	few := []byte{0, 1, 2, 3, 0x7f, 0x80, 0x81}
	seen := map[api.Errno]int{}
	rows := [][]byte{nil}
	for len(rows[0]) <= 4 {
		var longer [][]byte
		for _, p := range rows {
			for at := -1; at <= len(p)+1; at++ {
				for _, below := range []int{-1, 0, 1, 2, 3, 4, 5, 130, 1 << 20} {
					seen[holdAgainstModel(t, p, at, below)]++
				}
			}
			for _, b := range few {
				longer = append(longer, append(slices.Clone(p), b))
			}
		}
		rows = longer
	}
	for _, e := range []api.Errno{api.OK, api.ErrArg, api.ErrForm, api.ErrRange} {
		if seen[e] == 0 {
			t.Errorf("no row of bytes makes %d", e)
		}
	}
}

func TestRowsOfNumbersByChance(t *testing.T) {
	r := rand.New(rand.NewSource(81))
	for range 20000 {
		var p []byte
		many := r.Intn(6)
		p = append(p, pack.Uvarint(uint64(many+r.Intn(2)))...)
		for range many {
			p = append(p, pack.Uvarint(r.Uint64()>>r.Intn(64))...)
		}
		if r.Intn(4) == 0 {
			p[r.Intn(len(p))] = byte(r.Intn(256))
		}
		below := int(r.Uint64() >> (1 + r.Intn(63)))
		holdAgainstModel(t, p, 0, below)
		holdAgainstModel(t, p, 0, math.MaxInt)
		holdAgainstModel(t, p, r.Intn(len(p)), below)
	}
}

// P1, P2 and memory

func TestListsThatDoNotRise(t *testing.T) {
	// Nothing is promised of the answer, but that there is one, the same each time.
	r := rand.New(rand.NewSource(82))
	for range 5000 {
		a, b := make([]int, r.Intn(12)), make([]int, r.Intn(12))
		for _, l := range [][]int{a, b} {
			for i := range l {
				l[i] = r.Intn(8) - 4
			}
		}
		for _, f := range []func(a, b []int) []int{post.And, post.Or, post.Less} {
			if one, two := f(a, b), f(a, b); !slices.Equal(one, two) {
				t.Fatalf("of %v, %v: %v, then %v", a, b, one, two)
			}
		}
		_, e := post.Encode(a)
		good := slices.IsSorted(a) && len(slices.Compact(slices.Clone(a))) == len(a) && (len(a) == 0 || a[0] >= 0)
		if good != (e == api.OK) || !good && e != api.ErrForm {
			t.Fatalf("Encode(%v): %d", a, e)
		}
	}
}

func TestLongLists(t *testing.T) {
	const many = 1 << 20
	even, odd := make([]int, many), make([]int, many)
	for i := range many {
		even[i], odd[i] = 2*i, 2*i+1
	}
	if len(post.And(even, odd)) != 0 || len(post.Or(even, odd)) != 2*many || len(post.Less(even, odd)) != many || len(post.And(even, even)) != many {
		t.Error("sets of long lists")
	}
	p, e := post.Encode(odd)
	if e != api.OK {
		t.Fatalf("Encode: %d", e)
	}
	if l, behind, e := post.Decode(p, 0, 2*many); !slices.Equal(l, odd) || behind != len(p) || e != api.OK {
		t.Errorf("Decode: %d numbers, %d, %d", len(l), behind, e)
	}
}

func TestWhatIsHandedInStays(t *testing.T) {
	a, b := []int{1, 3, 5, -7, -8}, []int{3, 4, 9, -9, -10}
	for _, f := range []func(a, b []int) []int{post.And, post.Or, post.Less} {
		f(a[:3], b[:3])
		f(a[:3], nil)
		f(nil, b[:3])
	}
	post.Encode(a[:3])
	if !slices.Equal(a, []int{1, 3, 5, -7, -8}) || !slices.Equal(b, []int{3, 4, 9, -9, -10}) {
		t.Errorf("the lists are %v, %v", a, b)
	}
	p := []byte{3, 0, 0, 3, 0xaa, 0xbb}
	post.Decode(p[:4], 0, 6)
	if !bytes.Equal(p, []byte{3, 0, 0, 3, 0xaa, 0xbb}) {
		t.Errorf("the bytes are %x", p)
	}
}

func TestAnswersAreNewMemory(t *testing.T) {
	a, b := []int{1, 3, 5}, []int{1, 3, 5}
	var none []int
	for _, l := range [][]int{
		post.And(a, b), post.Or(a, b), post.Or(a, none), post.Or(none, b), post.Or(a, []int{9}), post.Less(a, none), post.Less(a, []int{9}),
	} {
		for i := range l[:cap(l)] {
			l[:cap(l)][i] = -1
		}
	}
	if !slices.Equal(a, []int{1, 3, 5}) || !slices.Equal(b, []int{1, 3, 5}) {
		t.Errorf("the lists are %v, %v", a, b)
	}
	one, _ := post.Encode(a)
	two, _ := post.Encode(a)
	for i := range one[:cap(one)] {
		one[:cap(one)][i] = 0xff
	}
	checkDecode(t, two, 0, 6, a, 4, api.OK)
	l, _, _ := post.Decode(two, 0, 6)
	for i := range l[:cap(l)] {
		l[:cap(l)][i] = -1
	}
	checkDecode(t, two, 0, 6, a, 4, api.OK)
}
