package cursor_test

import (
	"encoding/base64"
	"encoding/binary"
	"hash/crc32"
	"math/rand"
	"strings"
	"testing"

	"fascine/api"
	"fascine/cursor"
	"fascine/query"
)

const alphabet = "ABCDEFGHIJKLMNOPQRSTUVWXYZabcdefghijklmnopqrstuvwxyz0123456789-_"

// encoded: bytes in base 64.
func encoded(p string) string {
	return base64.RawURLEncoding.EncodeToString([]byte(p))
}

// decoded: back; the library lets ends of lines pass.
func decoded(s string) ([]byte, bool) {
	p, err := base64.RawURLEncoding.Strict().DecodeString(s)
	return p, err == nil && !strings.ContainsAny(s, "\r\n")
}

// summed: the text of bytes with their sum.
func summed(body string) string {
	return encoded(string(binary.BigEndian.AppendUint32([]byte(body), crc32.ChecksumIEEE([]byte(body)))))
}

// placeOf: the bytes of a cursor's ID and Time.
func placeOf(c api.Cursor) string {
	p := binary.AppendUvarint(nil, uint64(len(c.ID)))
	return string(binary.AppendVarint(append(p, c.ID...), c.Time))
}

// modelBytes: those of a cursor, right or not, without their sum.
func modelBytes(c api.Cursor) string {
	p := binary.AppendUvarint([]byte("C1"), uint64(len(c.Query)))
	p = append(p, c.Query...)
	p = binary.AppendUvarint(p, uint64(c.Limit))
	p = binary.AppendUvarint(p, uint64(len(c.Spots)))
	for _, s := range c.Spots {
		p = binary.AppendUvarint(p, s.Term)
		p = binary.AppendUvarint(p, uint64(s.Len))
	}
	if !c.Any {
		p = append(p, placeOf(c)...)
	}
	return string(p)
}

func modelForm(c api.Cursor) bool {
	_, _, e := query.Parse(c.Query)
	ok := e == api.OK && 0 < c.Limit && c.Limit < 21 && 0 < len(c.Spots) && len(c.Spots) < 9
	for _, s := range c.Spots {
		ok = ok && s.Len == min(max(s.Len, 0), 4096)
	}
	if c.Any {
		return ok && c.Time == 0 && c.ID == ""
	}
	other := strings.IndexFunc(c.ID, func(r rune) bool { return r <= ' ' || r > '~' })
	return ok && c.ID != "" && len(c.ID) < 33 && other < 0
}

// cut takes fields from the front of bytes; ok ends with the first that isn't there in the one way.
type cut struct {
	rest string
	ok   bool
}

func (c *cut) number() uint64 {
	v, n := binary.Uvarint([]byte(c.rest))
	if n <= 0 || len(binary.AppendUvarint(nil, v)) != n {
		c.rest, c.ok = "", false
		return 0
	}
	c.rest = c.rest[n:]
	return v
}

func (c *cut) bytes() string {
	n := c.number()
	if n > uint64(len(c.rest)) {
		c.rest, c.ok = "", false
		return ""
	}
	s := c.rest[:n]
	c.rest = c.rest[n:]
	return s
}

// modelFields: the cursor whose bytes they are, and whether there is one.
func modelFields(body string) (api.Cursor, bool) {
	f := cut{strings.TrimPrefix(body, "C1"), true}
	c := api.Cursor{Query: f.bytes()}
	limit, many := f.number(), f.number()
	if !f.ok || limit > 20 || many > 8 {
		return api.Cursor{}, false
	}
	c.Limit = int(limit)
	for range many {
		s := api.Spot{Term: f.number()}
		n := f.number()
		if n > 4096 {
			return api.Cursor{}, false
		}
		s.Len = int(n)
		c.Spots = append(c.Spots, s)
	}
	c.Any = f.rest == ""
	if !c.Any {
		c.ID = f.bytes()
		u := f.number()
		c.Time = int64(u >> 1)
		if u%2 == 1 {
			c.Time = -c.Time - 1
		}
	}
	return c, f.ok && f.rest == "" && modelForm(c)
}

func modelRead(s string) (api.Cursor, api.Errno) {
	if len(s) > 1200 {
		return api.Cursor{}, api.ErrLong
	}
	p, ok := decoded(s)
	if !ok || len(p) < 6 || p[0] != 'C' || p[1] != '1' {
		return api.Cursor{}, api.ErrForm
	}
	body := string(p[:len(p)-4])
	if crc32.ChecksumIEEE([]byte(body)) != binary.BigEndian.Uint32(p[len(body):]) {
		return api.Cursor{}, api.ErrSum
	}
	if c, ok := modelFields(body); ok {
		return c, api.OK
	}
	return api.Cursor{}, api.ErrForm
}

func holdRead(t *testing.T, s string) api.Errno {
	t.Helper()
	want, e := modelRead(s)
	if e != api.OK {
		checkRefused(t, s, e)
		return e
	}
	if c, got := cursor.Read(s); !same(c, want) || got != api.OK {
		t.Errorf("Read(%q) = %v, %d, want %v", s, c, got, want)
	}
	if again, got := cursor.Write(want); again != s || got != api.OK {
		t.Errorf("Write(%v) = %q, %d, want %q", want, again, got, s)
	}
	return e
}

func holdWrite(t *testing.T, c api.Cursor) bool {
	t.Helper()
	if !modelForm(c) {
		checkWrong(t, c)
		return false
	}
	checkWritten(t, c, modelBytes(c))
	return true
}

// Each text of up to so many of a few signs.
func TestEachShortText(t *testing.T) {
	var each func(s string, n int)
	each = func(s string, n int) {
		holdRead(t, s)
		if n == 0 || t.Failed() {
			return
		}
		for _, c := range "QzEAB_=+\n" {
			each(s+string(c), n-1)
		}
	}
	each("", 5)
}

// Each row of up to so many of a few bytes behind a beginning that is right so far, with a right sum.
func TestEachShortBody(t *testing.T) {
	for _, c := range []struct {
		head   string
		bytes  string
		length int
		right  int
	}{
		// 'C1', a query, a limit and one or two spots.
		{"", "00 01 02 '*' 14 15 80", 6, 6},
		// The limit, how many spots, and the spots.
		{"01 '*'", "00 01 02 08 14 15 80", 6, 1000},
		// Lengths of the spots.
		{"01 '*' 01 01 00", "00 01 1f 20 21 7f 80 ff", 5, 90},
		// A place.
		{"01 '*' 01 01 00 00", "00 01 02 20 21 7e 7f 80", 5, 90},
	} {
		right := 0
		signs := raw(c.bytes)
		var each func(s string, n int)
		each = func(s string, n int) {
			if holdRead(t, summed(s)) == api.OK {
				right++
			}
			if n == 0 || t.Failed() {
				return
			}
			for i := range signs {
				each(s+signs[i:i+1], n-1)
			}
		}
		each(raw("'C1'"+c.head), c.length)
		if right < c.right {
			t.Errorf("behind %s %d were right", c.head, right)
		}
	}
}

// pick: one of some.
func pick[T any](r *rand.Rand, l ...T) T {
	return l[r.Intn(len(l))]
}

// byChance: a cursor, right or not so much.
func byChance(r *rand.Rand) api.Cursor {
	c := api.Cursor{
		Query: pick(r, "*", "a", "red OR k=v", " (a) ", "NOT a >5", strings.Repeat("ab ", 170)),
		Limit: 1 + r.Intn(20), Any: r.Intn(2) == 0,
	}
	for range 1 + r.Intn(8) {
		c.Spots = append(c.Spots, api.Spot{Term: r.Uint64() >> r.Intn(64), Len: r.Intn(4097) >> r.Intn(12)})
	}
	if !c.Any {
		c.ID = strings.Repeat(pick(r, "!", "a", "id-7", "~"), 1+r.Intn(8))
		c.Time = int64(r.Uint64()) >> r.Intn(64)
	}
	// Most are right; the others are wrong in one thing, or may be.
	switch r.Intn(16) {
	case 0:
		c.Query = pick(r, "", "A", "a)", strings.Repeat("a ", 257))
	case 1:
		c.Limit = pick(r, 0, -1, 21, 1<<40+1, r.Int())
	case 2:
		c.Spots = make([]api.Spot, pick(r, 0, 9, 10, 200))
	case 3:
		c.Spots[r.Intn(len(c.Spots))].Len = pick(r, -1, 4097, 1<<40, -1<<63)
	case 4:
		c.Any = !c.Any
	case 5:
		c.ID += pick(r, " ", "\n", "é", "a", strings.Repeat("a", 33))
	case 6:
		c.Time = pick(r, 1, -1, 0, r.Int63())
	}
	return c
}

func TestCursorsByChance(t *testing.T) {
	r := rand.New(rand.NewSource(18))
	met := map[bool]int{}
	for range 40000 {
		met[holdWrite(t, byChance(r))]++
	}
	if met[true] < 10000 || met[false] < 5000 {
		t.Errorf("%v", met)
	}
}

// Bytes of a cursor, right or not, of which some are others, missing or too many, with their right sum.
func TestBodiesByChance(t *testing.T) {
	r := rand.New(rand.NewSource(19))
	met := map[api.Errno]int{}
	for range 60000 {
		body := []byte(modelBytes(byChance(r)))
		for range r.Intn(3) {
			i := r.Intn(len(body))
			switch r.Intn(4) {
			case 0:
				body[i] = byte(r.Intn(256))
			case 1:
				body = append(body[:i], body[i+1:]...)
			case 2:
				body = append(body[:i], append([]byte{byte(r.Intn(256) >> r.Intn(8))}, body[i:]...)...)
			case 3:
				body = body[:max(i, 1)]
			}
		}
		s := summed(string(body))
		met[holdRead(t, s)]++
		// And of the text.
		i := r.Intn(len(s))
		met[holdRead(t, s[:i]+alphabet[r.Intn(64):][:1]+s[i+1:])]++
		met[holdRead(t, s[:i]+s[i+1:])]++
	}
	if met[api.OK] < 10000 || met[api.ErrForm] < 10000 || met[api.ErrSum] < 10000 {
		t.Errorf("%v", met)
	}
}
