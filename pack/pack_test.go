package pack_test

import (
	"bytes"
	"encoding/binary"
	"hash/crc32"
	"math"
	"math/rand"
	"slices"
	"strings"
	"testing"

	"fascine/api"
	"fascine/pack"
)

// The signatures that the chapter lists.
var (
	_ func(uint64) []byte                             = pack.Uvarint
	_ func([]byte, int) (uint64, int, api.Errno)      = pack.ReadUvarint
	_ func(int64) uint64                              = pack.Zig
	_ func(uint64) int64                              = pack.Zag
	_ func(string) []byte                             = pack.Text
	_ func([]byte, int, int) (string, int, api.Errno) = pack.ReadText
	_ func([]byte) uint32                             = pack.Sum
	_ func([]byte) ([]byte, api.Errno)                = pack.Frame
	_ func([]byte, int) ([]byte, int, api.Errno)      = pack.ReadFrame
)

// numbers: those at which the length or a bit of a form changes, and some between.
func numbers() []uint64 {
	l := []uint64{0, 1, 2, 300, 16383, 16384, math.MaxUint64}
	for i := range 64 {
		v := uint64(1) << i
		l = append(l, v-1, v, v+1)
	}
	r := rand.New(rand.NewSource(1))
	for range 500 {
		l = append(l, r.Uint64()>>r.Intn(64))
	}
	return l
}

func checkNumber(t *testing.T, p []byte, at int, v uint64, behind int, e api.Errno) {
	t.Helper()
	gotV, gotN, gotE := pack.ReadUvarint(p, at)
	if gotV != v || gotN != behind || gotE != e {
		t.Errorf("ReadUvarint(%x, %d) = %d, %d, %d, want %d, %d, %d", p, at, gotV, gotN, gotE, v, behind, e)
	}
}

func checkText(t *testing.T, p []byte, at, most int, s string, behind int, e api.Errno) {
	t.Helper()
	gotS, gotN, gotE := pack.ReadText(p, at, most)
	if gotS != s || gotN != behind || gotE != e {
		t.Errorf("ReadText(%x, %d, %d) = %q, %d, %d, want %q, %d, %d", p, at, most, gotS, gotN, gotE, s, behind, e)
	}
}

func checkFrame(t *testing.T, p []byte, at int, payload []byte, behind int, e api.Errno) {
	t.Helper()
	gotP, gotN, gotE := pack.ReadFrame(p, at)
	if !bytes.Equal(gotP, payload) || gotN != behind || gotE != e {
		t.Errorf("ReadFrame(%.40x, %d) = %.40x, %d, %d, want %.40x, %d, %d", p, at, gotP, gotN, gotE, payload, behind, e)
	}
}

func frame(t *testing.T, p []byte) []byte {
	t.Helper()
	f, e := pack.Frame(p)
	if e != api.OK {
		t.Fatalf("Frame of %d bytes: %d", len(p), e)
	}
	return f
}

// P1.1

func TestUvarint(t *testing.T) {
	for v, want := range map[uint64]string{
		0: "\x00", 1: "\x01", 127: "\x7f", 128: "\x80\x01", 300: "\xac\x02",
		16383: "\xff\x7f", 16384: "\x80\x80\x01",
		1 << 63:        "\x80\x80\x80\x80\x80\x80\x80\x80\x80\x01",
		math.MaxUint64: "\xff\xff\xff\xff\xff\xff\xff\xff\xff\x01",
	} {
		if p := pack.Uvarint(v); string(p) != want {
			t.Errorf("Uvarint(%d) = %x, want %x", v, p, want)
		}
	}
	for _, v := range numbers() {
		if p, want := pack.Uvarint(v), binary.AppendUvarint(nil, v); !bytes.Equal(p, want) {
			t.Errorf("Uvarint(%d) = %x, want %x", v, p, want)
		}
	}
}

func TestReadUvarintReadsWhatUvarintWrites(t *testing.T) {
	for _, v := range numbers() {
		form := pack.Uvarint(v)
		checkNumber(t, form, 0, v, len(form), api.OK)
		among := slices.Concat([]byte{0xff, 0x80}, form, []byte{0x80, 0})
		checkNumber(t, among, 2, v, 2+len(form), api.OK)
		for n := range len(form) {
			checkNumber(t, form[:n], 0, 0, 0, api.ErrForm)
		}
	}
}

func TestReadUvarintPlaces(t *testing.T) {
	p := []byte{0xac, 0x02, 0x07}
	checkNumber(t, p, 0, 300, 2, api.OK)
	checkNumber(t, p, 1, 2, 2, api.OK)
	checkNumber(t, p, 2, 7, 3, api.OK)
	checkNumber(t, p, 3, 0, 0, api.ErrForm)
	for _, at := range []int{-1, 4, math.MinInt, math.MaxInt} {
		checkNumber(t, p, at, 0, 0, api.ErrArg)
	}
	checkNumber(t, nil, 0, 0, 0, api.ErrForm)
	checkNumber(t, nil, 1, 0, 0, api.ErrArg)
	checkNumber(t, nil, -1, 0, 0, api.ErrArg)
}

func TestReadUvarintRefuses(t *testing.T) {
	nine := strings.Repeat("\x80", 9)
	for _, s := range []string{
		"\x80", "\xff\xff", // cut short
		"\x80\x00", "\x81\x00", "\xac\x82\x00", nine + "\x00", // longer than need be
		nine + "\x02", nine + "\x7f", nine + "\x80", nine + "\x81", nine + "\x80\x00", nine + "\x81\x01", nine + "\xff\x01", // beyond 64 bits
		strings.Repeat("\x80", 100), strings.Repeat("\xff", 100) + "\x01",
	} {
		checkNumber(t, []byte(s), 0, 0, 0, api.ErrForm)
	}
	checkNumber(t, []byte(nine+"\x01"), 0, 1<<63, 10, api.OK)
	checkNumber(t, []byte("\x00\x00"), 0, 0, 1, api.OK)
}

// One number has one form: what is read is what would be written, at all short bytes.
func TestReadUvarintTakesOneFormAlone(t *testing.T) {
	look := func(p []byte) {
		v, n, e := pack.ReadUvarint(p, 0)
		if e == api.OK && !bytes.Equal(pack.Uvarint(v), p[:n]) {
			t.Fatalf("ReadUvarint(%x) = %d, whose form is %x", p, v, pack.Uvarint(v))
		}
		if e != api.OK && (v != 0 || n != 0 || e != api.ErrForm) {
			t.Fatalf("ReadUvarint(%x) = %d, %d, %d", p, v, n, e)
		}
		wantV, wantN := binary.Uvarint(p)
		whole := wantN > 0 && len(binary.AppendUvarint(nil, wantV)) == wantN
		if whole != (e == api.OK) || whole && (v != wantV || n != wantN) {
			t.Fatalf("ReadUvarint(%x) = %d, %d, %d", p, v, n, e)
		}
	}
	for a := range 256 {
		look([]byte{byte(a)})
		for b := range 256 {
			look([]byte{byte(a), byte(b)})
			look([]byte{byte(a), byte(b), byte(a ^ b)})
			look(append(bytes.Repeat([]byte{0x80}, 8), byte(a), byte(b)))
			look(append(bytes.Repeat([]byte{0xff}, 9), byte(a), byte(b)))
		}
	}
}

// P1.2

func TestZigAndZag(t *testing.T) {
	for v, u := range map[int64]uint64{
		0: 0, -1: 1, 1: 2, -2: 3, 2: 4, 150: 300,
		math.MaxInt64:     math.MaxUint64 - 1,
		math.MinInt64:     math.MaxUint64,
		math.MinInt64 + 1: math.MaxUint64 - 2,
	} {
		if pack.Zig(v) != u || pack.Zag(u) != v {
			t.Errorf("Zig(%d) = %d, Zag(%d) = %d", v, pack.Zig(v), u, pack.Zag(u))
		}
	}
	for _, u := range numbers() {
		if v := pack.Zag(u); pack.Zig(v) != u {
			t.Errorf("Zig(Zag(%d)) = %d", u, pack.Zig(v))
		}
		if v := int64(u); pack.Zag(pack.Zig(v)) != v {
			t.Errorf("Zag(Zig(%d)) = %d", v, pack.Zag(pack.Zig(v)))
		}
		half := int64(u >> 2)
		if pack.Zig(half) != 2*uint64(half) || pack.Zig(-half-1) != 2*uint64(half)+1 {
			t.Errorf("Zig(%d) = %d, Zig(%d) = %d", half, pack.Zig(half), -half-1, pack.Zig(-half-1))
		}
	}
}

// P1.3

func TestText(t *testing.T) {
	long := strings.Repeat("x", 300)
	for s, want := range map[string]string{
		"": "\x00", "ab": "\x02ab", "\x00\xff": "\x02\x00\xff", "é": "\x02\xc3\xa9", long: "\xac\x02" + long,
	} {
		if p := pack.Text(s); string(p) != want {
			t.Errorf("Text(%q) = %x", s, p)
		}
		checkText(t, []byte(want), 0, len(s), s, len(want), api.OK)
		checkText(t, []byte("zz"+want+"zz"), 2, math.MaxInt, s, 2+len(want), api.OK)
	}
}

func TestReadTextLengths(t *testing.T) {
	p := []byte("\x02ab")
	checkText(t, p, 0, 3, "ab", 3, api.OK)
	checkText(t, p, 0, 2, "ab", 3, api.OK)
	for _, most := range []int{1, 0, -1, math.MinInt} {
		checkText(t, p, 0, most, "", 0, api.ErrLong)
	}
	checkText(t, []byte{0}, 0, 0, "", 1, api.OK)
	checkText(t, []byte{0}, 0, -1, "", 0, api.ErrLong)
	checkText(t, []byte{0}, 0, math.MinInt, "", 0, api.ErrLong)
}

func TestReadTextRefuses(t *testing.T) {
	p := []byte("\x02ab")
	for _, at := range []int{-1, 4, math.MinInt, math.MaxInt} {
		checkText(t, p, at, 5, "", 0, api.ErrArg)
		checkText(t, p, at, -1, "", 0, api.ErrArg)
	}
	checkText(t, p, 3, 5, "", 0, api.ErrForm)
	checkText(t, nil, 0, 5, "", 0, api.ErrForm)
	checkText(t, nil, 0, -1, "", 0, api.ErrForm)
	// Bytes that are missing go ahead of a text that is too long.
	for n := range len(p) {
		checkText(t, p[:n], 0, 5, "", 0, api.ErrForm)
		checkText(t, p[:n], 0, 1, "", 0, api.ErrForm)
		checkText(t, p[:n], 0, -1, "", 0, api.ErrForm)
	}
	checkText(t, []byte("\x82\x00ab"), 0, 5, "", 0, api.ErrForm)
	for _, n := range []uint64{3, 1 << 31, 1 << 32, 1 << 62, 1<<63 - 1, 1 << 63, math.MaxUint64} {
		checkText(t, append(pack.Uvarint(n), "ab"...), 0, math.MaxInt, "", 0, api.ErrForm)
		checkText(t, append(pack.Uvarint(n), "ab"...), 0, 0, "", 0, api.ErrForm)
	}
}

// P1.4

func TestSum(t *testing.T) {
	if s := pack.Sum([]byte("123456789")); s != 0xcbf43926 {
		t.Errorf("Sum(123456789) = %x", s)
	}
	if s := pack.Sum(nil); s != 0 {
		t.Errorf("Sum of nothing = %x", s)
	}
	for b := range 256 {
		if p := []byte{byte(b)}; pack.Sum(p) != crc32.ChecksumIEEE(p) {
			t.Errorf("Sum(%x) = %x", p, pack.Sum(p))
		}
	}
	r := rand.New(rand.NewSource(2))
	for n := range 300 {
		p := make([]byte, n)
		r.Read(p)
		if pack.Sum(p) != crc32.ChecksumIEEE(p) {
			t.Errorf("Sum(%x) = %x", p, pack.Sum(p))
		}
	}
}

// P1.5

func TestFrame(t *testing.T) {
	if f := frame(t, nil); string(f) != "\xf1\x00\x00\x00\x00\x00\x1f" {
		t.Errorf("Frame of nothing = %x", f)
	}
	if f := frame(t, []byte{}); string(f) != "\xf1\x00\x00\x00\x00\x00\x1f" {
		t.Errorf("Frame of nothing = %x", f)
	}
	if f := frame(t, []byte("123456789")); string(f) != "\xf1\x09\xcb\xf4\x39\x26123456789\x1f" {
		t.Errorf("Frame(123456789) = %x", f)
	}
	for _, n := range []int{1, 127, 128, 16383, 16384, api.MaxFrame} {
		p := bytes.Repeat([]byte{0xf1}, n)
		want := binary.AppendUvarint([]byte{0xf1}, uint64(n))
		want = binary.BigEndian.AppendUint32(want, crc32.ChecksumIEEE(p))
		want = append(append(want, p...), 0x1f)
		if f := frame(t, p); !bytes.Equal(f, want) {
			t.Errorf("Frame of %d bytes = %.40x ..", n, f)
		}
		checkFrame(t, want, 0, p, len(want), api.OK)
	}
}

func TestFrameLimit(t *testing.T) {
	for _, n := range []int{api.MaxFrame + 1, 1 << 20} {
		if f, e := pack.Frame(make([]byte, n)); len(f) != 0 || e != api.ErrLong {
			t.Errorf("Frame of %d bytes = %d bytes, %d", n, len(f), e)
		}
	}
	// A frame of one byte more, right in all else, is none.
	for _, n := range []int{api.MaxFrame + 1, 1 << 20} {
		p := make([]byte, n)
		f := append([]byte{0xf1}, pack.Uvarint(uint64(n))...)
		f = binary.BigEndian.AppendUint32(f, crc32.ChecksumIEEE(p))
		f = append(append(f, p...), 0x1f)
		checkFrame(t, f, 0, nil, 0, api.ErrForm)
	}
	for _, n := range []uint64{1 << 31, 1 << 32, 1<<63 - 1, 1 << 63, math.MaxUint64} {
		f := append([]byte{0xf1}, pack.Uvarint(n)...)
		checkFrame(t, append(f, 0, 0, 0, 0, 0x1f), 0, nil, 0, api.ErrForm)
	}
}

func TestReadFramePlaces(t *testing.T) {
	a, b := frame(t, []byte("a")), frame(t, []byte("bc"))
	p := slices.Concat(a, b, []byte{0xf1})
	checkFrame(t, p, 0, []byte("a"), len(a), api.OK)
	checkFrame(t, p, len(a), []byte("bc"), len(a)+len(b), api.OK)
	checkFrame(t, p, len(a)+len(b), nil, 0, api.ErrForm)
	checkFrame(t, p, 1, nil, 0, api.ErrForm)
	checkFrame(t, p, len(p), nil, 0, api.ErrNone)
	for _, at := range []int{-1, len(p) + 1, math.MinInt, math.MaxInt} {
		checkFrame(t, p, at, nil, 0, api.ErrArg)
	}
	checkFrame(t, nil, 0, nil, 0, api.ErrNone)
	checkFrame(t, nil, 1, nil, 0, api.ErrArg)
	checkFrame(t, nil, -1, nil, 0, api.ErrArg)
}

func TestReadFrameCutShort(t *testing.T) {
	f := frame(t, []byte("123456789"))
	for n := 1; n < len(f); n++ {
		checkFrame(t, f[:n], 0, nil, 0, api.ErrForm)
	}
	checkFrame(t, f[:0], 0, nil, 0, api.ErrNone)
}

func TestReadFrameSpoilt(t *testing.T) {
	whole := frame(t, []byte("123456789"))
	spoil := func(e api.Errno, places ...int) {
		t.Helper()
		f := bytes.Clone(whole)
		for _, i := range places {
			f[i] ^= 0x40
		}
		checkFrame(t, f, 0, nil, 0, e)
	}
	last := len(whole) - 1
	spoil(api.ErrForm, 0)
	spoil(api.ErrForm, 1)
	spoil(api.ErrForm, last)
	for i := 2; i < last; i++ {
		spoil(api.ErrSum, i)
		// No frame goes ahead of a wrong sum.
		spoil(api.ErrForm, 0, i)
		spoil(api.ErrForm, i, last)
	}
	// The length in a longer form than need be.
	f := slices.Concat([]byte{0xf1, 0x89, 0}, whole[2:])
	checkFrame(t, f, 0, nil, 0, api.ErrForm)
	checkFrame(t, []byte("\xf1\x80\x00\x00\x00\x00\x00\x1f"), 0, nil, 0, api.ErrForm)
}

// P1, P2 and the rule on memory

func TestEveryCallEndsAndTellsTheSameAgain(t *testing.T) {
	r := rand.New(rand.NewSource(3))
	ints := []int{math.MinInt, -1, 0, 1, 2, 3, 7, 8, 20, 21, math.MaxInt}
	some := []byte{0x00, 0x01, 0x02, 0x1f, 0x7f, 0x80, 0xf1, 0xff}
	for range 2000 {
		p := make([]byte, r.Intn(21))
		for i := range p {
			p[i] = some[r.Intn(len(some))]
		}
		for _, at := range ints {
			v, n, e := pack.ReadUvarint(p, at)
			checkNumber(t, p, at, v, n, e)
			payload, n, e := pack.ReadFrame(p, at)
			checkFrame(t, p, at, payload, n, e)
			for _, most := range ints {
				s, n, e := pack.ReadText(p, at, most)
				checkText(t, p, at, most, s, n, e)
			}
		}
	}
}

func TestArgumentsStayAsTheyAre(t *testing.T) {
	room := slices.Concat([]byte("abc"), bytes.Repeat([]byte{0xee}, 60))
	before := bytes.Clone(room)
	p := room[:3]
	frame(t, p)
	pack.Sum(p)
	pack.ReadUvarint(p, 0)
	pack.ReadText(p, 0, 9)
	pack.ReadFrame(p, 0)
	if !bytes.Equal(room, before) {
		t.Errorf("an argument, or its spare room, was changed: %x", room)
	}
}

func TestAnswersAreNewMemory(t *testing.T) {
	p := []byte("abc")
	f := frame(t, p)
	copy(p, "xyz")
	if !bytes.Equal(f, frame(t, []byte("abc"))) {
		t.Error("a frame shares memory with its payload")
	}
	a, _, _ := pack.ReadFrame(f, 0)
	b, _, _ := pack.ReadFrame(f, 0)
	for _, l := range [][]byte{a, a[:cap(a)]} {
		for i := range l {
			l[i] = '!'
		}
	}
	if string(b) != "abc" {
		t.Error("two answers share memory")
	}
	checkFrame(t, f, 0, []byte("abc"), len(f), api.OK)
	text := []byte("\x02ab")
	s, _, _ := pack.ReadText(text, 0, 2)
	copy(text, "zzz")
	if s != "ab" {
		t.Error("a text shares memory with the bytes it was read from")
	}
	u, w := pack.Uvarint(300), pack.Uvarint(300)
	u[0] = 0
	if string(w) != "\xac\x02" || string(pack.Uvarint(300)) != "\xac\x02" {
		t.Error("two numbers' bytes share memory")
	}
}
