package seg_test

import (
	"bytes"
	"encoding/binary"
	"encoding/hex"
	"hash/crc32"
	"math"
	"slices"
	"strconv"
	"strings"
	"testing"

	"fascine/api"
	"fascine/seg"
)

// The signatures that the chapter lists.
var (
	_ func([]api.Doc) ([]byte, api.Errno)           = seg.Build
	_ func([]byte) (*seg.Seg, api.Errno)            = seg.Open
	_ func(*seg.Seg) int                            = (*seg.Seg).Len
	_ func(*seg.Seg, int) (api.Doc, api.Errno)      = (*seg.Seg).Doc
	_ func(*seg.Seg) []string                       = (*seg.Seg).Terms
	_ func(s *seg.Seg, term string) (numbers []int) = (*seg.Seg).Posts
	_ func(*seg.Seg, api.Query) []int               = (*seg.Seg).Find
)

// summed: some bytes and their sum.
func summed(body []byte) []byte {
	return binary.BigEndian.AppendUint32(slices.Clone(body), crc32.ChecksumIEEE(body))
}

// bodyOf: the bytes of a segment ahead of the sum, of its parts as they are told: how many entries, the entries, how many terms, the terms.
func bodyOf(parts ...[]byte) []byte {
	return append([]byte("SEG1"), bytes.Join(parts, nil)...)
}

func number(n uint64) []byte { return binary.AppendUvarint(nil, n) }

func text(s string) []byte { return append(number(uint64(len(s))), s...) }

// entry: the bytes of an entry, be it one or not.
func entry(d api.Doc) []byte {
	return bytes.Join([][]byte{text(d.ID), binary.AppendVarint(nil, d.Time), text(d.Text)}, nil)
}

// term: the bytes of a term and of its numbers, told as they are written.
func term(s string, written ...byte) []byte { return append(text(s), written...) }

func build(t *testing.T, l []api.Doc) []byte {
	t.Helper()
	p, e := seg.Build(l)
	if e != api.OK {
		t.Fatalf("Build of %d entries: %d", len(l), e)
	}
	return p
}

func open(t *testing.T, p []byte) *seg.Seg {
	t.Helper()
	s, e := seg.Open(p)
	if s == nil || e != api.OK {
		t.Fatalf("Open of %d bytes: %v, %d", len(p), s == nil, e)
	}
	return s
}

func segment(t *testing.T, l ...api.Doc) *seg.Seg {
	t.Helper()
	return open(t, build(t, l))
}

func checkBuild(t *testing.T, l []api.Doc, want []byte, e api.Errno) {
	t.Helper()
	got, gotE := seg.Build(l)
	if !bytes.Equal(got, want) || gotE != e {
		t.Errorf("Build(%d entries) = %.200x, %d, want %.200x, %d", len(l), got, gotE, want, e)
	}
}

func checkRefused(t *testing.T, p []byte, e api.Errno) {
	t.Helper()
	s, gotE := seg.Open(p)
	if s != nil || gotE != e {
		t.Errorf("Open(%.200q): a segment: %v, %d, want %d", p, s != nil, gotE, e)
	}
}

// checkDocs: does a segment tell just these entries?
func checkDocs(t *testing.T, s *seg.Seg, want ...api.Doc) {
	t.Helper()
	if s.Len() != len(want) {
		t.Fatalf("Len = %d, want %d", s.Len(), len(want))
	}
	for i, d := range want {
		if got, e := s.Doc(i); got != d || e != api.OK {
			t.Fatalf("Doc(%d) = %v, %d, want %v", i, got, e, d)
		}
	}
	for _, i := range []int{math.MinInt, -2, -1, len(want), len(want) + 1, math.MaxInt} {
		if got, e := s.Doc(i); got != (api.Doc{}) || e != api.ErrNone {
			t.Errorf("Doc(%d) = %v, %d", i, got, e)
		}
	}
}

func checkTerms(t *testing.T, s *seg.Seg, want ...string) {
	t.Helper()
	if got := s.Terms(); !slices.Equal(got, want) {
		t.Errorf("Terms = %q, want %q", got, want)
	}
}

func checkPosts(t *testing.T, s *seg.Seg, term string, want ...int) {
	t.Helper()
	if got := s.Posts(term); !slices.Equal(got, want) {
		t.Errorf("Posts(%q) = %v, want %v", term, got, want)
	}
}

func checkFind(t *testing.T, s *seg.Seg, q api.Query, want ...int) {
	t.Helper()
	if got := s.Find(q); !slices.Equal(got, want) {
		t.Errorf("Find(%v) = %v, want %v", q, got, want)
	}
}

// P9.1

func TestBuildOfNone(t *testing.T) {
	want := append([]byte("SEG1\x00\x00"), 0, 0, 0, 0)
	binary.BigEndian.PutUint32(want[6:], crc32.ChecksumIEEE(want[:6]))
	checkBuild(t, nil, want, api.OK)
	checkBuild(t, []api.Doc{}, want, api.OK)
}

func TestBuildByteForByte(t *testing.T) {
	l := []api.Doc{{ID: "a", Time: 1, Text: "Red k=v"}, {ID: "bc", Time: -2, Text: "blue red"}, {ID: "d", Time: 300}}
	body, _ := hex.DecodeString("53454731" + "03" +
		"0161" + "02" + "07526564206b3d76" + // a, 1, Red k=v
		"026263" + "03" + "08626c756520726564" + // bc, -2, blue red
		"0164" + "d804" + "00" + // d, 300, nothing
		"05" +
		"04626c7565" + "0101" + // blue: 1
		"016b" + "0100" + // k: 0
		"036b3d76" + "0100" + // k=v: 0
		"03726564" + "020000" + // red: 0, 1
		"0176" + "0100") // v: 0
	checkBuild(t, l, summed(body), api.OK)
}

func TestBuildKeepsTheOrder(t *testing.T) {
	// Neither by times nor by ids; the same one twice, and one of the same id.
	l := []api.Doc{{ID: "z", Time: 9, Text: "x"}, {ID: "a", Time: 5}, {ID: "z", Time: 9, Text: "x"}, {ID: "z", Time: math.MinInt64, Text: "y"}, {ID: "a", Time: math.MaxInt64}}
	checkDocs(t, segment(t, l...), l...)
}

func TestBuildTermsRiseByTheirBytes(t *testing.T) {
	s := segment(t, api.Doc{ID: "a", Text: "é b=a B 10 9 a"}, api.Doc{ID: "b", Text: "\U00010000 \uffff ab a0"})
	checkTerms(t, s, "10", "9", "a", "a0", "ab", "b", "b=a", "é", "\uffff", "\U00010000")
}

func TestBuildTellsLongAheadOfForm(t *testing.T) {
	l := make([]api.Doc, api.MaxDocs+1)
	for i := range l {
		l[i].ID = "x"
	}
	if s := open(t, build(t, l[:api.MaxDocs])); s.Len() != api.MaxDocs {
		t.Errorf("Len = %d", s.Len())
	}
	checkBuild(t, l, nil, api.ErrLong)
	// One that is none, wherever it stands.
	for _, i := range []int{0, 1, api.MaxDocs / 2, api.MaxDocs - 1} {
		l[i].ID = ""
		checkBuild(t, l[:api.MaxDocs], nil, api.ErrForm)
		checkBuild(t, l, nil, api.ErrLong)
		l[i].ID = "x"
	}
	l[api.MaxDocs].ID = "no id"
	checkBuild(t, l, nil, api.ErrLong)
	checkBuild(t, l[api.MaxDocs:], nil, api.ErrForm)
}

func TestBuildRefuses(t *testing.T) {
	good := api.Doc{ID: "a", Text: "red"}
	for _, d := range []api.Doc{
		{}, {Text: "red", Time: 1}, {ID: "a b"}, {ID: "é"}, {ID: "a\x7f"}, {ID: strings.Repeat("x", api.MaxName+1)}, {ID: "a", Text: strings.Repeat("x", api.MaxText+1)},
	} {
		for _, l := range [][]api.Doc{{d}, {d, good}, {good, d}, {good, d, good}} {
			checkBuild(t, l, nil, api.ErrForm)
		}
	}
	longest := api.Doc{ID: strings.Repeat("~", api.MaxName), Time: math.MinInt64, Text: strings.Repeat("\xff", api.MaxText)}
	checkDocs(t, segment(t, longest, good), longest, good)
}

// P9.2

func TestOpenOfShortBytes(t *testing.T) {
	// Fewer than 8, be their sum right or not.
	for n := range 8 {
		checkRefused(t, []byte("SEG1\x00\x00\x00\x00")[:n], api.ErrForm)
		if n >= 4 {
			checkRefused(t, summed([]byte("SEG1")[:n-4]), api.ErrForm)
		}
	}
	checkRefused(t, nil, api.ErrForm)
	// From 8 on the sum is looked at.
	checkRefused(t, []byte("SEG1\x00\x00\x00\x00"), api.ErrSum)
	checkRefused(t, summed([]byte("SEG1")), api.ErrForm)
	checkRefused(t, []byte("SEG1\x00\x00\x00\x00\x00"), api.ErrSum)
	checkRefused(t, summed([]byte("SEG1\x00")), api.ErrForm)
}

func TestOpenOfAnotherMark(t *testing.T) {
	for _, m := range []string{"SEG0", "SEG2", "seg1", "1GES", "\x00EG1", " SEG", "SEG\x00"} {
		checkRefused(t, summed([]byte(m+"\x00\x00")), api.ErrForm)
		// Ahead of the sum.
		checkRefused(t, []byte(m+"\x00\x00\x00\x00\x00\x00"), api.ErrForm)
	}
}

func TestOpenOfTurnedBits(t *testing.T) {
	p := build(t, []api.Doc{{ID: "a", Time: 1, Text: "red k=v"}, {ID: "b", Time: -2, Text: "blue red"}})
	for i := range p {
		for bit := range 8 {
			turned := slices.Clone(p)
			turned[i] ^= 1 << bit
			if i < len("SEG1") {
				checkRefused(t, turned, api.ErrForm)
			} else {
				checkRefused(t, turned, api.ErrSum)
			}
		}
	}
	// The sum the other way about.
	turned := slices.Clone(p)
	slices.Reverse(turned[len(p)-4:])
	checkRefused(t, turned, api.ErrSum)
}

func TestOpenOfCutBytes(t *testing.T) {
	p := build(t, []api.Doc{{ID: "a", Time: 1, Text: "red k=v"}, {ID: "b", Time: -2, Text: "blue red"}})
	for n := range p {
		if n < 8 {
			checkRefused(t, p[:n], api.ErrForm)
		} else {
			checkRefused(t, p[:n], api.ErrSum)
		}
		if n >= 4 && n < len(p)-4 {
			checkRefused(t, summed(p[:n]), api.ErrForm)
		}
	}
	checkRefused(t, append(slices.Clone(p), 0), api.ErrSum)
	checkRefused(t, append(slices.Clone(p), p...), api.ErrSum)
	checkRefused(t, summed(p), api.ErrForm)
	checkRefused(t, summed(append(slices.Clone(p[:len(p)-4]), 0)), api.ErrForm)
}

func TestOpenOfBytesThatBuildMakesOfNoList(t *testing.T) {
	one, two := number(1), number(2)
	a, b := entry(api.Doc{ID: "a", Text: "x y"}), entry(api.Doc{ID: "b", Text: "y"})
	x, y := term("x", 1, 0), term("y", 2, 0, 0)
	open(t, summed(bodyOf(two, a, b, two, x, y)))
	for _, body := range [][]byte{
		bodyOf(one, a, b, two, x, y),                                      // how many entries
		bodyOf(number(3), a, b, two, x, y),                                //
		bodyOf([]byte{0x82, 0}, a, b, two, x, y),                          // not in as few bytes as can be
		bodyOf(two, b, a, two, x, y),                                      // the entries the other way about
		bodyOf(two, a, b, one, x, y),                                      // how many terms
		bodyOf(two, a, b, number(3), x, y),                                //
		bodyOf(two, a, b, []byte{0x82, 0}, x, y),                          //
		bodyOf(two, a, b, one, x),                                         // a term is missing
		bodyOf(two, a, b, one, y),                                         //
		bodyOf(two, a, b, number(0)),                                      //
		bodyOf(two, a, b),                                                 //
		bodyOf(two, a, b, number(3), x, y, term("z", 1, 0)),               // one too many
		bodyOf(two, a, b, number(3), x, y, term("z", 0)),                  //
		bodyOf(two, a, b, two, y, x),                                      // not rising
		bodyOf(two, a, b, number(3), x, x, y),                             // twice
		bodyOf(two, a, b, number(3), x, term("y", 1, 0), term("y", 1, 1)), //
		bodyOf(two, a, b, two, term("X", 1, 0), y),                        // not as words.Terms tells it
		bodyOf(two, a, b, two, term("w", 1, 0), y),                        // another one
		bodyOf(two, a, b, two, term("x", 1, 1), y),                        // at another one
		bodyOf(two, a, b, two, term("x", 2, 0, 0), y),                     // at more
		bodyOf(two, a, b, two, x, term("y", 1, 0)),                        // at fewer
		bodyOf(two, a, b, two, x, term("y", 0)),                           // at none
		bodyOf(two, a, b, two, x, term("y", 2, 0, 1)),                     // at none that there is
		bodyOf(two, a, b, two, x, term("y", 2, 0, 0x80, 0)),               //
		bodyOf(two, a, b, two, x, y, []byte{0}),                           // something behind
		bodyOf(two, a, b, two, x, y, y),                                   //
		bodyOf(two, a, a, two, x, y),                                      // other entries
		bodyOf(number(math.MaxUint64), a, b, two, x, y),                   //
		bodyOf(bytes.Repeat([]byte{0xff}, 12), a, b, two, x, y),           //
		bodyOf(number(0), number(0), number(0)),                           //
		bodyOf(number(0), number(1), x),                                   //
		bodyOf(number(0), []byte{0x80, 0}),                                //
		bodyOf([]byte{0x80, 0}, number(0)),                                //
	} {
		checkRefused(t, summed(body), api.ErrForm)
	}
}

func TestOpenOfWhatIsNoEntry(t *testing.T) {
	none := number(0)
	open(t, summed(bodyOf(number(1), entry(api.Doc{ID: "a", Time: -1, Text: "- -"}), none)))
	for _, p := range [][]byte{
		entry(api.Doc{}),
		entry(api.Doc{ID: " "}),
		entry(api.Doc{ID: "a\n"}),
		entry(api.Doc{ID: "\x7f"}),
		entry(api.Doc{ID: strings.Repeat("x", api.MaxName+1)}),
		entry(api.Doc{ID: "a", Text: strings.Repeat("-", api.MaxText+1)}),
		bytes.Join([][]byte{{0x81, 0}, []byte("a"), {2}, {0}}, nil),                   // a length not in as few bytes as can be
		bytes.Join([][]byte{text("a"), {0x82, 0}, {0}}, nil),                          // a time
		bytes.Join([][]byte{text("a"), {2}, {0x81, 0}, []byte("-")}, nil),             //
		bytes.Join([][]byte{text("a"), bytes.Repeat([]byte{0xff}, 9), {2}, {0}}, nil), // a time beyond 64 bits
		bytes.Join([][]byte{number(math.MaxUint64), []byte("a"), {2}, {0}}, nil),      // longer than all
		bytes.Join([][]byte{text("a"), {2}, number(math.MaxInt64)}, nil),              //
		bytes.Join([][]byte{text("a"), {2}, number(3), []byte("-")}, nil),             //
		bytes.Join([][]byte{text("a"), {2}, number(2), []byte("-")}, nil),             // up to the terms' number
	} {
		checkRefused(t, summed(bodyOf(number(1), p, none)), api.ErrForm)
	}
}

func TestOpenOfTooMany(t *testing.T) {
	d := entry(api.Doc{ID: "x", Time: 1, Text: "-"})
	for _, n := range []int{api.MaxDocs, api.MaxDocs + 1, 2 * api.MaxDocs} {
		p := summed(bodyOf(number(uint64(n)), bytes.Repeat(d, n), number(0)))
		if n > api.MaxDocs {
			checkRefused(t, p, api.ErrForm)
		} else if s := open(t, p); s.Len() != n {
			t.Errorf("Len = %d, want %d", s.Len(), n)
		}
	}
}

func TestOpenLooksAtMaxTermsNot(t *testing.T) {
	// Far more terms than MaxTerms: no call looks at it.
	var l []api.Doc
	n := 0
	for i := range 200 {
		var b strings.Builder
		for b.Len() < api.MaxText-8 {
			b.WriteString("w" + strconv.Itoa(n) + " ")
			n++
		}
		l = append(l, api.Doc{ID: "x", Time: int64(i), Text: b.String()})
	}
	if n < 2*api.MaxTerms {
		t.Fatalf("%d terms", n)
	}
	s := segment(t, l...)
	checkDocs(t, s, l...)
	if got := s.Terms(); len(got) != n {
		t.Errorf("%d terms, want %d", len(got), n)
	}
	checkPosts(t, s, "w0", 0)
	checkPosts(t, s, "w"+strconv.Itoa(n-1), 199)
}

// P9.3

func TestOfNone(t *testing.T) {
	s := segment(t)
	checkDocs(t, s)
	checkTerms(t, s)
	checkPosts(t, s, "")
	checkPosts(t, s, "red")
	checkFind(t, s, all())
	checkFind(t, s, and())
	checkFind(t, s, not(word("red")))
}

func TestOfANilSegment(t *testing.T) {
	var s *seg.Seg
	checkDocs(t, s)
	if d, e := s.Doc(0); d != (api.Doc{}) || e != api.ErrNone {
		t.Errorf("Doc(0) = %v, %d", d, e)
	}
	checkTerms(t, s)
	checkPosts(t, s, "")
	checkPosts(t, s, "red")
	for k := range 256 {
		q := api.Query{Kind: byte(k), Text: "red", Kids: []api.Query{all()}}
		checkFind(t, s, q)
		checkFind(t, s, not(q))
	}
}

func TestPostsAndTerms(t *testing.T) {
	l := []api.Doc{{ID: "a", Text: "Red red=BLUE red"}, {ID: "red", Text: "green"}, {ID: "b"}, {ID: "c", Text: "blue, RED"}}
	s := segment(t, l...)
	checkDocs(t, s, l...)
	checkTerms(t, s, "blue", "green", "red", "red=blue")
	checkPosts(t, s, "red", 0, 3)
	checkPosts(t, s, "blue", 0, 3)
	checkPosts(t, s, "red=blue", 0)
	checkPosts(t, s, "green", 1)
	for _, none := range []string{"", "Red", "RED", "re", "redd", "blue=red", "red=", "=blue", "red=BLUE", " red", "red\x00", "a", "b"} {
		checkPosts(t, s, none)
	}
}

func TestFindEachKind(t *testing.T) {
	s := segment(t, api.Doc{ID: "a", Time: 3, Text: "Red k=v"}, api.Doc{ID: "b", Time: -3, Text: "blue red"}, api.Doc{ID: "c", Time: 0, Text: "blue"}, api.Doc{ID: "d", Time: math.MaxInt64, Text: "v k"})
	checkFind(t, s, all(), 0, 1, 2, 3)
	checkFind(t, s, word("red"), 0, 1)
	checkFind(t, s, word("Red"))
	checkFind(t, s, word(""))
	checkFind(t, s, pair("k=v"), 0)
	checkFind(t, s, word("k=v"), 0)
	checkFind(t, s, pair("blue"), 1, 2)
	checkFind(t, s, pair("v=k"))
	checkFind(t, s, after(0), 0, 3)
	checkFind(t, s, after(math.MinInt64), 0, 1, 2, 3)
	checkFind(t, s, after(math.MaxInt64))
	checkFind(t, s, before(0), 1)
	checkFind(t, s, before(math.MaxInt64), 0, 1, 2)
	checkFind(t, s, before(math.MinInt64))
	checkFind(t, s, not(word("blue")), 0, 3)
	checkFind(t, s, not(not(word("blue"))), 1, 2)
	checkFind(t, s, not(all()))
	checkFind(t, s, not(word("green")), 0, 1, 2, 3)
	checkFind(t, s, and(word("red"), word("blue")), 1)
	checkFind(t, s, and(word("k"), word("v"), not(pair("k=v"))), 3)
	checkFind(t, s, and(word("green"), word("red")))
	checkFind(t, s, or(word("red"), word("blue")), 0, 1, 2)
	checkFind(t, s, or(before(0), word("green"), after(3)), 1, 3)
	checkFind(t, s, or(word("green"), word("grey")))
	checkFind(t, s, or(word("red"), all(), word("blue")), 0, 1, 2, 3)
}

func TestFindOfOddQueries(t *testing.T) {
	s := segment(t, api.Doc{ID: "a", Time: 5, Text: "red"}, api.Doc{ID: "b", Time: 5, Text: "blue"})
	checkFind(t, s, and(), 0, 1)
	checkFind(t, s, or())
	checkFind(t, s, not())
	checkFind(t, s, not(or(), or()))
	checkFind(t, s, not(all(), or()))
	checkFind(t, s, not(not()), 0, 1)
	for k := int(api.QBefore) + 1; k < 256; k++ {
		q := api.Query{Kind: byte(k), Text: "red", N: 5, Kids: []api.Query{all()}}
		checkFind(t, s, q)
		checkFind(t, s, not(q), 0, 1)
		checkFind(t, s, or(q, word("blue")), 1)
	}
	// Fields that a kind doesn't need.
	no := []api.Query{or()}
	checkFind(t, s, api.Query{Kind: api.QAll, Text: "blue", N: 9, Kids: no}, 0, 1)
	checkFind(t, s, api.Query{Kind: api.QWord, Text: "red", N: 9, Kids: no}, 0)
	checkFind(t, s, api.Query{Kind: api.QAfter, Text: "blue", N: 4, Kids: no}, 0, 1)
	checkFind(t, s, api.Query{Kind: api.QNot, Text: "blue", N: 9, Kids: no}, 0, 1)
	checkFind(t, s, api.Query{Kind: api.QAnd, Text: "blue", N: 9}, 0, 1)
	checkFind(t, s, api.Query{Kind: api.QOr, Text: "red", N: 4})
}

func all() api.Query                  { return api.Query{Kind: api.QAll} }
func word(s string) api.Query         { return api.Query{Kind: api.QWord, Text: s} }
func pair(s string) api.Query         { return api.Query{Kind: api.QPair, Text: s} }
func after(n int64) api.Query         { return api.Query{Kind: api.QAfter, N: n} }
func before(n int64) api.Query        { return api.Query{Kind: api.QBefore, N: n} }
func not(kids ...api.Query) api.Query { return api.Query{Kind: api.QNot, Kids: kids} }
func and(kids ...api.Query) api.Query { return api.Query{Kind: api.QAnd, Kids: kids} }
func or(kids ...api.Query) api.Query  { return api.Query{Kind: api.QOr, Kids: kids} }
