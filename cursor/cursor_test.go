package cursor_test

import (
	"encoding/hex"
	"math"
	"slices"
	"strings"
	"testing"

	"fascine/api"
	"fascine/cursor"
)

// The signatures that the chapter lists.
var (
	_ func(api.Cursor) bool                = cursor.Form
	_ func(api.Cursor) (string, api.Errno) = cursor.Write
	_ func(string) (api.Cursor, api.Errno) = cursor.Read
)

// first: a cursor at the beginning.
func first(q string, limit int, spots ...api.Spot) api.Cursor {
	return api.Cursor{Query: q, Limit: limit, Spots: spots, Any: true}
}

// behind: a cursor behind an entry.
func behind(time int64, id string, q string, limit int, spots ...api.Spot) api.Cursor {
	return api.Cursor{Query: q, Limit: limit, Spots: spots, Time: time, ID: id}
}

func same(a, b api.Cursor) bool {
	return a.Query == b.Query && a.Limit == b.Limit && slices.Equal(a.Spots, b.Spots) && a.Any == b.Any && a.Time == b.Time && a.ID == b.ID
}

// checkRight: it is right, and its text is read as itself.
func checkRight(t *testing.T, c api.Cursor) string {
	t.Helper()
	if !cursor.Form(c) {
		t.Errorf("Form(%.200v) = false", c)
	}
	s, e := cursor.Write(c)
	if s == "" || len(s) > api.MaxCursor || e != api.OK {
		t.Errorf("Write(%.200v) = %q, %d", c, s, e)
	}
	if again, e := cursor.Read(s); !same(again, c) || e != api.OK {
		t.Errorf("Read(%q) = %v, %d, want %v", s, again, e, c)
	}
	return s
}

// checkWrong: it isn't right, and has no text.
func checkWrong(t *testing.T, c api.Cursor) {
	t.Helper()
	if cursor.Form(c) {
		t.Errorf("Form(%.200v) = true", c)
	}
	if s, e := cursor.Write(c); s != "" || e != api.ErrForm {
		t.Errorf("Write(%.200v) = %q, %d", c, s, e)
	}
}

// checkWritten: its text stands for these bytes, given without their sum.
func checkWritten(t *testing.T, c api.Cursor, body string) {
	t.Helper()
	if s := checkRight(t, c); s != summed(body) {
		t.Errorf("Write(%v) = %q, want %q", c, s, summed(body))
	}
}

func checkRefused(t *testing.T, s string, want api.Errno) {
	t.Helper()
	if c, e := cursor.Read(s); !same(c, api.Cursor{}) || c.Spots != nil || e != want {
		t.Errorf("Read(%.200q) = %v, %d, want %d", s, c, e, want)
	}
}

// raw: bytes told in base 16, parts of a text between ' and ' as they are.
func raw(s string) string {
	var all strings.Builder
	for i, part := range strings.Split(s, "'") {
		if i%2 == 1 {
			all.WriteString(part)
			continue
		}
		p, err := hex.DecodeString(strings.ReplaceAll(part, " ", ""))
		if err != nil {
			panic(err)
		}
		all.Write(p)
	}
	return all.String()
}

func spots(many int) []api.Spot {
	var l []api.Spot
	for i := range many {
		l = append(l, api.Spot{Term: uint64(i) * 100, Len: i * 585})
	}
	return l
}

// longest: the right cursor that takes the most bytes.
func longest() api.Cursor {
	c := behind(math.MinInt64, strings.Repeat("~", api.MaxName), strings.Repeat("a ", 255)+"a ", api.MaxLimit)
	for range api.MaxShards {
		c.Spots = append(c.Spots, api.Spot{Term: math.MaxUint64, Len: api.MaxDocs})
	}
	return c
}

// Example 1.
func TestExample(t *testing.T) {
	s := checkRight(t, first("*", 1, api.Spot{Term: 1}))
	if !strings.HasPrefix(s, "QzEBKgEBAQ") {
		t.Errorf("%q", s)
	}
	checkRefused(t, "", api.ErrForm)
}

// P18.1

func TestWrittenBytes(t *testing.T) {
	checkWritten(t, first("*", 1, api.Spot{Term: 1}), raw("'C1' 01 '*' 01 01 01 00"))
	checkWritten(t, first("red", 20, api.Spot{Term: 127, Len: 127}, api.Spot{Term: 128, Len: 128}), raw("'C1' 03 'red' 14 02 7f 7f 80 01 80 01"))
	checkWritten(t, first(" red  OR (blue k=v) ", 7, api.Spot{Len: 4096}), raw("'C1' 14 ' red  OR (blue k=v) ' 07 01 00 80 20"))
	checkWritten(t, behind(0, "a", "*", 2, api.Spot{Term: 300, Len: 5}), raw("'C1' 01 '*' 02 01 ac 02 05 01 'a' 00"))
	checkWritten(t, behind(-1, "!~", ">-5", 2, api.Spot{Term: math.MaxUint64}), raw("'C1' 03 '>-5' 02 01 ff ff ff ff ff ff ff ff ff 01 00 02 '!~' 01"))
	checkWritten(t, behind(1, "00000000000000000000000000000000", "é", 3, api.Spot{}), raw("'C1' 02 'é' 03 01 00 00 20 '00000000000000000000000000000000' 02"))
	checkWritten(t, behind(math.MaxInt64, "a", "*", 1, api.Spot{}), raw("'C1' 01 '*' 01 01 00 00 01 'a' fe ff ff ff ff ff ff ff ff 01"))
	checkWritten(t, behind(math.MinInt64, "a", "*", 1, api.Spot{}), raw("'C1' 01 '*' 01 01 00 00 01 'a' ff ff ff ff ff ff ff ff ff 01"))
	checkWritten(t, first("*", 9, spots(8)...), raw("'C1' 01 '*' 09 08  00 00  64 c9 04  c8 01 92 09  ac 02 db 0d  90 03 a4 12  f4 03 ed 16  d8 04 b6 1b  bc 05 ff 1f"))
}

// Each sign of the texts is met, with one, two and three bytes at the end, and nothing is laid behind them.
func TestWrittenSigns(t *testing.T) {
	met := map[rune]bool{}
	ends := map[int]bool{}
	for term := range uint64(3000) {
		s := checkRight(t, first("*", 1, api.Spot{Term: term * term * term}))
		for _, c := range s {
			met[c] = true
		}
		ends[len(s)%4] = true
	}
	for _, c := range "ABCDEFGHIJKLMNOPQRSTUVWXYZabcdefghijklmnopqrstuvwxyz0123456789-_" {
		if !met[c] {
			t.Errorf("%c isn't met", c)
		}
	}
	if len(met) != 64 || len(ends) != 3 || ends[1] {
		t.Errorf("%d signs, ends %v", len(met), ends)
	}
}

func TestFormOfQuery(t *testing.T) {
	deep := strings.Repeat("NOT ", api.MaxDepth)
	for _, q := range []string{
		"*", "red", "k=v", ">5", "<-7", "a b", "a OR b", "NOT a", "(a)", " ( a OR NOT(b c) ) ", "é", ">-9223372036854775808",
		deep + "a", strings.Repeat("(", api.MaxDepth) + "a" + strings.Repeat(")", api.MaxDepth),
		strings.Repeat("a ", api.MaxQuery/2), "*" + strings.Repeat(" ", api.MaxQuery-1), strings.Repeat(" ", api.MaxQuery-1) + "*",
	} {
		checkRight(t, first(q, 1, api.Spot{}))
		checkRight(t, behind(5, "a", q, 20, spots(8)...))
	}
	for _, q := range []string{
		"", " ", "Red", "a OR", "OR", "NOT", "(a", "a)", "()", ">05", ">", "k=", "=v", "-", "a\nb", "\x00", "\xff", "a\x00",
		deep + "NOT a", strings.Repeat("(", api.MaxDepth+1) + "a" + strings.Repeat(")", api.MaxDepth+1),
		strings.Repeat("a ", api.MaxQuery/2) + "a", "*" + strings.Repeat(" ", api.MaxQuery), strings.Repeat("a", api.MaxWord+1),
	} {
		checkWrong(t, first(q, 1, api.Spot{}))
		checkWrong(t, behind(5, "a", q, 20, spots(8)...))
	}
}

func TestFormOfLimit(t *testing.T) {
	for limit := 1; limit <= api.MaxLimit; limit++ {
		checkRight(t, first("*", limit, api.Spot{}))
		checkRight(t, behind(5, "a", "*", limit, api.Spot{}))
	}
	for _, limit := range []int{0, -1, api.MaxLimit + 1, 128, 257, 1<<32 + 1, math.MinInt, math.MinInt + 1, math.MaxInt} {
		checkWrong(t, first("*", limit, api.Spot{}))
		checkWrong(t, behind(5, "a", "*", limit, api.Spot{}))
	}
}

func TestFormOfSpots(t *testing.T) {
	for many := 1; many <= api.MaxShards; many++ {
		checkRight(t, first("*", 1, spots(many)...))
		checkRight(t, behind(5, "a", "*", 1, spots(many)...))
		for i := range many {
			for _, term := range []uint64{0, 1, 127, 128, 1 << 32, 1 << 63, math.MaxUint64} {
				for _, n := range []int{0, 1, 127, 128, api.MaxDocs - 1, api.MaxDocs} {
					l := spots(many)
					l[i] = api.Spot{Term: term, Len: n}
					checkRight(t, first("*", 1, l...))
				}
				for _, n := range []int{-1, api.MaxDocs + 1, 1<<32 + 1, math.MinInt, math.MaxInt} {
					l := spots(many)
					l[i] = api.Spot{Term: term, Len: n}
					checkWrong(t, first("*", 1, l...))
					checkWrong(t, behind(5, "a", "*", 1, l...))
				}
			}
		}
	}
	for _, l := range [][]api.Spot{nil, {}, make([]api.Spot, api.MaxShards+1), make([]api.Spot, 257), make([]api.Spot, 5000)} {
		checkWrong(t, first("*", 1, l...))
		checkWrong(t, behind(5, "a", "*", 1, l...))
	}
}

func TestFormOfPlace(t *testing.T) {
	for _, time := range []int64{0, 1, -1, 63, 64, -64, -65, math.MinInt64, math.MaxInt64} {
		for _, id := range []string{"a", "!", "~", "a=b", "(", strings.Repeat("a", api.MaxName)} {
			checkRight(t, behind(time, id, "*", 1, api.Spot{}))
			checkWrong(t, api.Cursor{Query: "*", Limit: 1, Spots: spots(1), Any: true, Time: time, ID: id})
		}
		for _, id := range []string{"", " ", "a b", "a\n", "\x7f", "\x20", "é", "a\xff", "\x00", strings.Repeat("a", api.MaxName+1), strings.Repeat("a", 300)} {
			checkWrong(t, behind(time, id, "*", 1, api.Spot{}))
			if id != "" {
				checkWrong(t, api.Cursor{Query: "*", Limit: 1, Spots: spots(1), Any: true, ID: id})
			}
		}
		if time != 0 {
			checkWrong(t, api.Cursor{Query: "*", Limit: 1, Spots: spots(1), Any: true, Time: time})
		}
	}
	checkWrong(t, api.Cursor{})
	checkWrong(t, api.Cursor{Any: true})
}

// The other limits let no right cursor's text come to MaxCursor.
func TestLongest(t *testing.T) {
	c := longest()
	if s := checkRight(t, c); len(s) != 882 {
		t.Errorf("%d bytes: %q", len(s), s)
	}
	c.Query += " "
	checkWrong(t, c)
}

// P18.2

func TestReadTooLong(t *testing.T) {
	right, _ := cursor.Write(longest())
	for _, sign := range []string{"A", "=", "\x00", "Q"} {
		for _, beyond := range []int{1, 2, 3, 4, 400, 100000} {
			checkRefused(t, strings.Repeat(sign, api.MaxCursor+beyond), api.ErrLong)
			checkRefused(t, right+strings.Repeat(sign, api.MaxCursor+beyond-len(right)), api.ErrLong)
		}
		for n := api.MaxCursor - 4; n <= api.MaxCursor; n++ {
			checkRefused(t, strings.Repeat(sign, n), api.ErrForm)
		}
	}
	// At the limit all else is looked at: 900 bytes.
	long := raw("'C1' 01 '*' 01 01 01 00") + strings.Repeat("a", 888)
	if s := summed(long); len(s) != api.MaxCursor {
		t.Errorf("%d bytes", len(s))
	} else {
		checkRefused(t, s, api.ErrForm)
		checkRefused(t, s[:1199]+string(s[1199]^1), api.ErrSum)
	}
	// 901 bytes.
	checkRefused(t, summed(long+"a"), api.ErrLong)
}

// Each byte at each place of a text: those of base 64 turn the bytes or their sum, all others are refused.
func TestReadOtherSigns(t *testing.T) {
	for _, c := range []api.Cursor{first("*", 1, api.Spot{Term: 1}), first("ab", 1, api.Spot{Term: 1}), behind(-7, "an-id", "a OR b", 20, spots(3)...)} {
		s := checkRight(t, c)
		met := map[api.Errno]int{}
		for i := range len(s) {
			for b := range 256 {
				turned := s[:i] + string([]byte{byte(b)}) + s[i+1:]
				if turned == s {
					continue
				}
				want := api.ErrSum
				if p, ok := decoded(turned); !ok || !strings.HasPrefix(string(p), "C1") {
					want = api.ErrForm
				}
				met[want]++
				checkRefused(t, turned, want)
			}
		}
		if met[api.ErrSum] < 63*(len(s)-4) || met[api.ErrForm] < 192*len(s) {
			t.Errorf("%q came to %v", s, met)
		}
	}
}

// What is laid into a text, or stands around it, is refused, also what other readers of base 64 let pass; that goes ahead of the sum.
func TestReadSignsBetween(t *testing.T) {
	for _, q := range []string{"*", "ab", "abc"} {
		right := checkRight(t, first(q, 1, api.Spot{Term: 1}))
		p, _ := decoded(right)
		p[len(p)-1] ^= 1
		other := encoded(string(p))
		checkRefused(t, other, api.ErrSum)
		for _, s := range []string{right, other} {
			for i := range len(s) + 1 {
				for _, between := range []string{" ", "\n", "\r", "\r\n", "=", "==", "+", "/", ".", "\x00", "\xff", "é"} {
					checkRefused(t, s[:i]+between+s[i:], api.ErrForm)
				}
			}
		}
	}
}

// A letter more than the bytes need, and bits that stand beside them.
func TestReadBitsBesideTheBytes(t *testing.T) {
	met := map[int]bool{}
	for _, q := range []string{"a", "ab", "abc"} {
		s := checkRight(t, first(q, 1, api.Spot{}))
		met[len(s)%4] = true
		last := strings.IndexByte(alphabet, s[len(s)-1])
		beside := map[int]int{0: 1, 2: 16, 3: 4}[len(s)%4]
		for bits := 1; bits < beside; bits++ {
			checkRefused(t, s[:len(s)-1]+alphabet[last+bits:][:1], api.ErrForm)
		}
		// Behind letters that come to 4 one more is too many; else it may stand for another byte.
		for _, more := range []string{"A", "B", "_"} {
			want := api.ErrForm
			if _, ok := decoded(s + more); ok && len(s)%4 != 0 {
				want = api.ErrSum
			}
			checkRefused(t, s+more, want)
		}
	}
	if len(met) != 3 {
		t.Errorf("%v", met)
	}
}

func TestReadFewBytes(t *testing.T) {
	for _, s := range []string{"", "Q", "Qw", "QzE", "QzEA", "QzEAA", "QzEAAA", "QzEAAAA", "A", "AA", "AAAAAAA", "_"} {
		checkRefused(t, s, api.ErrForm)
	}
	// Fewer than 6 bytes, with a right sum.
	for _, body := range []string{"", "C", "1", "\x00"} {
		checkRefused(t, summed(body), api.ErrForm)
	}
	// 6 bytes: with a right sum, without it.
	checkRefused(t, summed("C1"), api.ErrForm)
	checkRefused(t, encoded("C1\x00\x00\x00\x00"), api.ErrSum)
	checkRefused(t, encoded("C1\xff\xff\xff\xff"), api.ErrSum)
	checkRefused(t, encoded("C0\xff\xff\xff\xff"), api.ErrForm)
}

// How the bytes begin goes ahead of the sum.
func TestReadOtherBeginnings(t *testing.T) {
	rest := raw("01 '*' 01 01 01 00")
	checkReadAs(t, "C1"+rest, first("*", 1, api.Spot{Term: 1}))
	for _, head := range []string{"", "C", "1", "C0", "C2", "c1", "1C", "B1", " C1", "CC1", "C\x01", "\xc1", "C\xb1", "\xc31", "SEG1"} {
		checkRefused(t, summed(head+rest), api.ErrForm)
		checkRefused(t, encoded(head+rest+"abcd"), api.ErrForm)
	}
}

func TestReadSums(t *testing.T) {
	for _, body := range []string{
		raw("'C1' 01 '*' 01 01 01 00"), raw("'C1' 01 '*' 02 01 ac 02 05 01 'a' 00"),
		// No cursor's: the sum goes ahead.
		"C1", "C1a", raw("'C1' 00 00 00"), raw("'C1' 01 '*' 00 01 01 00"),
	} {
		s, _ := decoded(summed(body))
		sum := s[len(body):]
		for i := range 32 {
			turned := slices.Clone(sum)
			turned[i/8] ^= 1 << (i % 8)
			checkRefused(t, encoded(body+string(turned)), api.ErrSum)
		}
		for _, other := range []string{
			string([]byte{sum[3], sum[2], sum[1], sum[0]}), string([]byte{^sum[0], ^sum[1], ^sum[2], ^sum[3]}), "\x00\x00\x00\x00", "\xff\xff\xff\xff",
			string(sum) + "\x00", string(sum[:3]), string(sum) + string(sum),
		} {
			// Beside a body of no bytes more than C1 three bytes of the sum are too few.
			want := api.ErrSum
			if len(body)+len(other) < 6 {
				want = api.ErrForm
			}
			checkRefused(t, encoded(body+other), want)
		}
		// Each bit of what the sum is of.
		for i := 16; i < 8*len(body); i++ {
			turned := []byte(body)
			turned[i/8] ^= 1 << (i % 8)
			checkRefused(t, encoded(string(turned)+string(sum)), api.ErrSum)
		}
	}
}

// A text cut short anywhere, and one from which something is missing.
func TestReadParts(t *testing.T) {
	for _, c := range []api.Cursor{first("*", 1, api.Spot{Term: 1}), behind(-7, "an-id", "a OR b", 20, spots(3)...), longest()} {
		s := checkRight(t, c)
		for n := range len(s) {
			want := api.ErrSum
			if p, ok := decoded(s[:n]); !ok || len(p) < 6 {
				want = api.ErrForm
			}
			checkRefused(t, s[:n], want)
		}
		p, _ := decoded(s)
		body := string(p[:len(p)-4])
		for n := range len(body) {
			// Cut behind the spots it is one that begins at the beginning, and not this one.
			if !c.Any && n == len(body)-len(placeOf(c)) {
				begin := c
				begin.Any, begin.Time, begin.ID = true, 0, ""
				checkReadAs(t, body[:n], begin)
				continue
			}
			checkRefused(t, summed(body[:n]), api.ErrForm)
		}
		for b := range 256 {
			if c.Any && b == 0 {
				continue
			}
			checkRefused(t, summed(body+string([]byte{byte(b)})), api.ErrForm)
		}
		checkRefused(t, summed(body+"\x00"), api.ErrForm)
		// Twice the longest one is too long a text.
		want := api.ErrForm
		if len(body) > 448 {
			want = api.ErrLong
		}
		checkRefused(t, summed(body+body), want)
	}
}

// Bytes with a right sum that are no cursor's.
func TestReadOtherFields(t *testing.T) {
	long := strings.Repeat("a ", 256)
	for _, body := range []string{
		"C1",
		// The query: none, no query's text, not whole, too long, its length laid in another way, or far too great.
		"'C1' 00 01 01 01 00", "'C1' 01 ' ' 01 01 01 00", "'C1' 03 'Red' 01 01 01 00", "'C1' 04 'a OR' 01 01 01 00",
		"'C1' 01", "'C1' 05 '*' 01 01 01", "'C1' 80", "'C1' 80 04 '" + long[:511] + "'", "'C1' 81 04 '" + long + " ' 01 01 01 00",
		"'C1' 81 00 '*' 01 01 01 00", "'C1' ff ff ff ff ff ff ff ff ff 01 '*' 01 01 01 00", "'C1' ff ff ff ff ff ff ff ff ff 02 '*' 01 01 01 00",
		"'C1' 80 80 80 80 80 80 80 80 80 01 '*' 01 01 01 00", "'C1' ff ff ff ff ff ff ff ff 7f '*' 01 01 01 00",
		// The limit.
		"'C1' 01 '*'", "'C1' 01 '*' 00 01 01 00", "'C1' 01 '*' 15 01 01 00", "'C1' 01 '*' 81 00 01 01 00", "'C1' 01 '*' 80 01 01 01 00",
		"'C1' 01 '*' 81 80 80 80 10 01 01 00", "'C1' 01 '*' 81 80 80 80 80 80 80 80 80 01 01 01 00", "'C1' 01 '*' ff ff ff ff ff ff ff ff ff 01 01 01 00", "'C1' 01 '*' 80",
		// How many spots.
		"'C1' 01 '*' 01", "'C1' 01 '*' 01 00", "'C1' 01 '*' 01 00 01 00", "'C1' 01 '*' 01 02 01 00", "'C1' 01 '*' 01 01", "'C1' 01 '*' 01 81 00 01 00",
		"'C1' 01 '*' 01 09" + strings.Repeat("01 00", 9), "'C1' 01 '*' 01 ff ff ff ff ff ff ff ff ff 01 01 00", "'C1' 01 '*' 01 ff ff 03" + strings.Repeat("01 00", 300),
		"'C1' 01 '*' 01 80 80 80 80 80 80 80 80 80 01 01 00", "'C1' 01 '*' 01 81 80 80 80 10 01 00",
		// The terms and lengths.
		"'C1' 01 '*' 01 01 01", "'C1' 01 '*' 01 01 80", "'C1' 01 '*' 01 01 81 00 00", "'C1' 01 '*' 01 01 ff ff ff ff ff ff ff ff ff 02 00",
		"'C1' 01 '*' 01 01 01 81 20", "'C1' 01 '*' 01 01 01 80 00", "'C1' 01 '*' 01 01 01 80", "'C1' 01 '*' 01 01 01 80 80 80 80 10",
		"'C1' 01 '*' 01 01 01 80 80 80 80 80 80 80 80 80 01", "'C1' 01 '*' 01 01 01 ff ff ff ff ff ff ff ff ff 01",
		"'C1' 01 '*' 01 02 01 00 01", "'C1' 01 '*' 01 02 01 00 01 81 20", "'C1' 01 '*' 01 02 01 81 20 01 00",
		// The ID: none, one with other bytes, too long, not whole.
		"'C1' 01 '*' 01 01 01 00 00", "'C1' 01 '*' 01 01 01 00 00 00", "'C1' 01 '*' 01 01 01 00 00 05", "'C1' 01 '*' 01 01 01 00 01 ' ' 00",
		"'C1' 01 '*' 01 01 01 00 01 7f 00", "'C1' 01 '*' 01 01 01 00 02 'é' 00", "'C1' 01 '*' 01 01 01 00 21 'aaaaaaaabbbbbbbbccccccccddddddddx' 00",
		"'C1' 01 '*' 01 01 01 00 02 'a'", "'C1' 01 '*' 01 01 01 00 81 00 'a' 00", "'C1' 01 '*' 01 01 01 00 ff ff ff ff ff ff ff ff ff 01 'a' 00",
		// The time.
		"'C1' 01 '*' 01 01 01 00 01 'a'", "'C1' 01 '*' 01 01 01 00 01 'a' 80", "'C1' 01 '*' 01 01 01 00 01 'a' 80 00",
		"'C1' 01 '*' 01 01 01 00 01 'a' ff ff ff ff ff ff ff ff ff 02", "'C1' 01 '*' 01 01 01 00 01 'a' ff ff ff ff ff ff ff ff ff 81 00",
		// What stands behind it.
		"'C1' 01 '*' 01 01 01 00 01 'a' 00 00", "'C1' 01 '*' 01 01 01 00 01 'a' 00 01 'a' 00", "'C1' 01 '*' 01 01 01 00 'C1'",
	} {
		checkRefused(t, summed(raw(body)), api.ErrForm)
	}
	// The right ones beside them.
	checkReadAs(t, raw("'C1' 80 04 '"+long+"' 01 01 01 00"), first(long, 1, api.Spot{Term: 1}))
	checkReadAs(t, raw("'C1' 01 '*' 14 01 01 00"), first("*", 20, api.Spot{Term: 1}))
	checkReadAs(t, raw("'C1' 01 '*' 01 01 ff ff ff ff ff ff ff ff ff 01 80 20"), first("*", 1, api.Spot{Term: math.MaxUint64, Len: 4096}))
	checkReadAs(t, raw("'C1' 01 '*' 01 08"+strings.Repeat("01 02", 8)), first("*", 1, slices.Repeat([]api.Spot{{Term: 1, Len: 2}}, 8)...))
	checkReadAs(t, raw("'C1' 01 '*' 01 01 01 00 01 'a' 03"), behind(-2, "a", "*", 1, api.Spot{Term: 1}))
	checkReadAs(t, raw("'C1' 01 '*' 01 01 01 00 20 'aaaaaaaabbbbbbbbccccccccdddddddd' ff ff ff ff ff ff ff ff ff 01"), behind(math.MinInt64, "aaaaaaaabbbbbbbbccccccccdddddddd", "*", 1, api.Spot{Term: 1}))
}

// checkReadAs: the text of these bytes, given without their sum, is the cursor's.
func checkReadAs(t *testing.T, body string, want api.Cursor) {
	t.Helper()
	if c, e := cursor.Read(summed(body)); !same(c, want) || e != api.OK {
		t.Errorf("Read of %q = %v, %d, want %v", body, c, e, want)
	}
	checkWritten(t, want, body)
}

// The rules on memory

func TestArgumentsAreNotChanged(t *testing.T) {
	room := spots(5)
	was := slices.Clone(room)
	c := behind(5, "a", "*", 1, room[:3]...)
	c.Spots = room[:3:5]
	s, _ := cursor.Write(c)
	cursor.Form(c)
	if !slices.Equal(room, was) {
		t.Errorf("%v, before it %v", room, was)
	}
	// What was handed in may be written over.
	clear(room)
	if again, _ := cursor.Read(s); !slices.Equal(again.Spots, was[:3]) {
		t.Errorf("%v", again.Spots)
	}
}

func TestAnswersAreNewMemory(t *testing.T) {
	c := first("*", 1, spots(3)...)
	s := checkRight(t, c)
	one, _ := cursor.Read(s)
	two, _ := cursor.Read(s)
	for _, l := range [][]api.Spot{one.Spots, one.Spots[:0], two.Spots} {
		l = l[:cap(l)]
		for i := range l {
			l[i] = api.Spot{Term: 9, Len: 9}
		}
		if three, e := cursor.Read(s); !same(three, c) || e != api.OK {
			t.Errorf("Read = %v, %d", three, e)
		}
	}
	two, _ = cursor.Read(s)
	clear(one.Spots[:cap(one.Spots)])
	if !same(two, c) {
		t.Errorf("%v", two)
	}
}
