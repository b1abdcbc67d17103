package copy_test

import (
	"bytes"
	"encoding/binary"
	"fmt"
	"math"
	"math/rand"
	"slices"
	"strings"
	"testing"

	"fascine/api"
	"fascine/copy"
	"fascine/disk"
	"fascine/pack"
	"fascine/wal"
)

// The signatures that the chapter lists.
var (
	_ func(api.Op) ([]byte, api.Errno)                   = copy.Encode
	_ func([]byte) (api.Op, api.Errno)                   = copy.Decode
	_ func(*disk.Disk, int) (*copy.Copy, api.Errno)      = copy.Open
	_ func(*copy.Copy, uint64) api.Errno                 = (*copy.Copy).Hear
	_ func(*copy.Copy, uint64) api.Errno                 = (*copy.Copy).Serve
	_ func(*copy.Copy, api.Op) api.Errno                 = (*copy.Copy).Append
	_ func(c *copy.Copy, t uint64, l []api.Op) api.Errno = (*copy.Copy).Adopt
	_ func(*copy.Copy) copy.Terms                        = (*copy.Copy).Terms
	_ func(*copy.Copy) []api.Op                          = (*copy.Copy).Ops
	_ func(*copy.Copy) int                               = (*copy.Copy).Len
)

var _ = struct{ Heard, Served, Adopted uint64 }(copy.Terms{})

func newDisk(t *testing.T, room int) *disk.Disk {
	t.Helper()
	d, e := disk.New(room)
	if e != api.OK {
		t.Fatalf("disk.New(%d): %d", room, e)
	}
	return d
}

func mustOpen(t *testing.T, d *disk.Disk, shard int) *copy.Copy {
	t.Helper()
	c, e := copy.Open(d, shard)
	if c == nil || e != api.OK {
		t.Fatalf("Open(%d): %d", shard, e)
	}
	return c
}

func want(t *testing.T, what string, got, e api.Errno) {
	t.Helper()
	if got != e {
		t.Errorf("%s: %d, want %d", what, got, e)
	}
}

func op(term uint64, id string) api.Op {
	return api.Op{Term: term, Doc: api.Doc{ID: id, Time: int64(len(id)), Text: "of " + id}}
}

// ops: entries of one term.
func ops(term uint64, ids ...string) []api.Op {
	var l []api.Op
	for _, id := range ids {
		l = append(l, op(term, id))
	}
	return l
}

// big: so many entries whose texts are as long as can be.
func big(term uint64, many int) []api.Op {
	var l []api.Op
	for i := range many {
		l = append(l, api.Op{Term: term, Doc: api.Doc{ID: fmt.Sprint("n", i), Text: strings.Repeat("x", api.MaxText)}})
	}
	return l
}

// wrong: entries that are none.
func wrong() []api.Doc {
	return []api.Doc{
		{}, {Text: "a"}, {ID: "a b"}, {ID: " "}, {ID: "a\n"}, {ID: "\x7f"}, {ID: "é"}, {ID: "a\xff"}, {ID: "\x00"},
		{ID: strings.Repeat("a", api.MaxName+1)},
		{ID: "a", Text: strings.Repeat("x", api.MaxText+1)},
	}
}

// state is all that a copy tells.
type state struct {
	terms copy.Terms
	len   int
	ops   string
}

func stateOf(c *copy.Copy) state {
	return state{c.Terms(), c.Len(), fmt.Sprint(c.Ops())}
}

func checkState(t *testing.T, c *copy.Copy, terms copy.Terms, l []api.Op) {
	t.Helper()
	if c.Terms() != terms || !slices.Equal(c.Ops(), l) || c.Len() != len(l) {
		t.Errorf("%v, %.300v (%d), want %v, %.300v", c.Terms(), c.Ops(), c.Len(), terms, l)
	}
}

// checkKept: behind a fall that keeps nothing that isn't durable the same is there.
func checkKept(t *testing.T, d *disk.Disk, c *copy.Copy, shard int) *copy.Copy {
	t.Helper()
	before := stateOf(c)
	d.Restart(nil)
	again := mustOpen(t, d, shard)
	if now := stateOf(again); now != before {
		t.Errorf("behind a fall %.300v, before it %.300v", now, before)
	}
	return again
}

// unchanged: the call answers that error, and neither what the copy tells nor its file has changed.
func unchanged(t *testing.T, d *disk.Disk, c *copy.Copy, what string, e api.Errno, call func() api.Errno) {
	t.Helper()
	before, file := stateOf(c), fileOf(d, 0)
	want(t, what, call(), e)
	if now := stateOf(c); now != before || fileOf(d, 0) != file {
		t.Errorf("%s: %.300v, before it %.300v", what, now, before)
	}
}

func fileOf(d *disk.Disk, shard int) string {
	p, _ := d.Read(fmt.Sprint("shard-", shard))
	return string(p)
}

// recordsOf: those of a shard's file.
func recordsOf(d *disk.Disk, shard int) [][]byte {
	l, _ := wal.Scan([]byte(fileOf(d, shard)))
	return l
}

// lay: a disk with a file of these records.
func lay(t *testing.T, name string, records ...[]byte) *disk.Disk {
	t.Helper()
	d := newDisk(t, 1<<20)
	for _, r := range records {
		f, _ := pack.Frame(r)
		d.Append(name, f)
	}
	d.Sync(name)
	return d
}

// Example 1.
func TestExample(t *testing.T) {
	d := newDisk(t, 4096)
	c := mustOpen(t, d, 0)
	a, b, x := op(1, "a"), op(1, "b"), op(2, "c")
	want(t, "Serve(1)", c.Serve(1), api.OK)
	want(t, "Append(a)", c.Append(a), api.OK)
	checkState(t, c, copy.Terms{Heard: 1, Served: 1, Adopted: 1}, []api.Op{a})
	want(t, "Hear(2)", c.Hear(2), api.OK)
	want(t, "Append(b)", c.Append(b), api.ErrState)
	want(t, "Adopt(2, c)", c.Adopt(2, []api.Op{x}), api.OK)
	checkState(t, c, copy.Terms{Heard: 2, Served: 1, Adopted: 2}, []api.Op{x})
	want(t, "Adopt(2)", c.Adopt(2, nil), api.OK)
	checkState(t, c, copy.Terms{Heard: 2, Served: 1, Adopted: 2}, []api.Op{x})
	want(t, "Adopt(1)", c.Adopt(1, nil), api.ErrState)
	checkKept(t, d, c, 0)
}

// P16.1

// modelBytes: Encode by the library's numbers.
func modelBytes(o api.Op) []byte {
	p := binary.AppendUvarint(nil, o.Term)
	p = append(binary.AppendUvarint(p, uint64(len(o.Doc.ID))), o.Doc.ID...)
	p = binary.AppendVarint(p, o.Doc.Time)
	return append(binary.AppendUvarint(p, uint64(len(o.Doc.Text))), o.Doc.Text...)
}

func checkBytes(t *testing.T, o api.Op, bytesOf []byte) {
	t.Helper()
	if p, e := copy.Encode(o); !bytes.Equal(p, bytesOf) || e != api.OK {
		t.Errorf("Encode(%.100v) = %.100x, %d, want %.100x", o, p, e, bytesOf)
	}
	if back, e := copy.Decode(bytesOf); back != o || e != api.OK {
		t.Errorf("Decode(%.100x) = %.100v, %d, want %.100v", bytesOf, back, e, o)
	}
}

func TestEncodeAndDecode(t *testing.T) {
	checkBytes(t, api.Op{Doc: api.Doc{ID: "a"}}, []byte{0, 1, 'a', 0, 0})
	checkBytes(t, api.Op{Term: 300, Doc: api.Doc{ID: "a!", Time: -1, Text: "xy"}}, []byte{0xac, 2, 2, 'a', '!', 1, 2, 'x', 'y'})
	checkBytes(t, api.Op{Term: 1, Doc: api.Doc{ID: "~", Time: 1, Text: "\x00"}}, []byte{1, 1, '~', 2, 1, 0})
	for _, term := range []uint64{0, 1, 127, 128, 1 << 62, math.MaxUint64} {
		for _, time := range []int64{0, 1, -1, 63, 64, -64, -65, math.MaxInt64, math.MinInt64} {
			for _, id := range []string{"a", "!", "~", strings.Repeat("b", api.MaxName)} {
				for _, text := range []string{"", " ", "\xff", "é", strings.Repeat("x", 127), strings.Repeat("x", 128), strings.Repeat("x", api.MaxText)} {
					o := api.Op{Term: term, Doc: api.Doc{ID: id, Time: time, Text: text}}
					checkBytes(t, o, modelBytes(o))
				}
			}
		}
	}
}

func TestEncodeOfNoEntry(t *testing.T) {
	for _, d := range wrong() {
		o := api.Op{Term: 1, Doc: d}
		if p, e := copy.Encode(o); len(p) != 0 || e != api.ErrForm {
			t.Errorf("Encode(%.60q ..) = %x, %d", d.ID, p, e)
		}
		checkNone(t, modelBytes(o))
	}
}

func checkNone(t *testing.T, p []byte) {
	t.Helper()
	if o, e := copy.Decode(p); o != (api.Op{}) || e != api.ErrForm {
		t.Errorf("Decode(%.60x) = %v, %d", p, o, e)
	}
}

func TestDecodeOfWhatIsNone(t *testing.T) {
	whole := modelBytes(api.Op{Term: 300, Doc: api.Doc{ID: "ab", Time: 300, Text: "text"}})
	for n := range whole {
		checkNone(t, whole[:n])
	}
	for _, b := range []byte{0, 1, 0x80, 0xff} {
		checkNone(t, append(slices.Clone(whole), b))
		checkNone(t, append([]byte{b}, whole...)[:len(whole)])
	}
	checkNone(t, append(slices.Clone(whole), whole...))
	for _, p := range [][]byte{
		nil, {0}, {0, 0}, {0, 0, 0, 0},
		{0x80, 0, 1, 'a', 0, 0}, {0, 0x81, 0, 'a', 0, 0}, {0, 1, 'a', 0x80, 0, 0}, {0, 1, 'a', 0, 0x80, 0},
		{0xff, 0xff, 0xff, 0xff, 0xff, 0xff, 0xff, 0xff, 0xff, 2, 1, 'a', 0, 0},
		{0, 0xff, 0xff, 0xff, 0xff, 0xff, 0xff, 0xff, 0xff, 0xff, 1, 'a', 0, 0},
		{0, 1, 'a', 0xff, 0xff, 0xff, 0xff, 0xff, 0xff, 0xff, 0xff, 0xff, 2, 0},
		{0, 1, 'a', 0, 0xff, 0xff, 0xff, 0xff, 0xff, 0xff, 0xff, 0xff, 0xff, 1},
	} {
		checkNone(t, p)
	}
}

// Decode answers just what Encode makes those bytes of.
func TestDecodeOfAnyBytes(t *testing.T) {
	r := rand.New(rand.NewSource(1))
	right := 0
	for range 300000 {
		p := modelBytes(api.Op{Term: r.Uint64() >> r.Intn(64), Doc: api.Doc{ID: "abc"[:1+r.Intn(3)], Time: int64(r.Uint64()) >> r.Intn(64), Text: "xyz"[:r.Intn(4)]}})
		for range 1 + r.Intn(2) {
			p[r.Intn(len(p))] = byte(r.Intn(256)) >> r.Intn(8)
		}
		o, e := copy.Decode(p)
		if e == api.OK {
			right++
			if again, e := copy.Encode(o); !bytes.Equal(again, p) || e != api.OK {
				t.Fatalf("Decode(%x) = %v, of which Encode makes %x, %d", p, o, again, e)
			}
		} else if e != api.ErrForm || o != (api.Op{}) {
			t.Fatalf("Decode(%x) = %v, %d", p, o, e)
		}
	}
	if right < 30000 || right > 270000 {
		t.Errorf("%d of 300000 were right: little was tried", right)
	}
}

// P16.2

func checkRefused(t *testing.T, d *disk.Disk, shard int, e api.Errno) {
	t.Helper()
	if c, got := copy.Open(d, shard); c != nil || got != e {
		t.Errorf("Open(%d) = %v, %d, want %d", shard, c != nil, got, e)
	}
}

func TestOpenOfNothing(t *testing.T) {
	d := newDisk(t, 0)
	for shard := range api.MaxShards {
		checkState(t, mustOpen(t, d, shard), copy.Terms{}, nil)
	}
	if len(d.Names()) != 0 {
		t.Errorf("Open makes %q", d.Names())
	}
}

func TestOpenRefuses(t *testing.T) {
	off := newDisk(t, 100)
	off.Arm(1)
	off.Append("a", nil)
	for _, shard := range []int{math.MinInt, -1, api.MaxShards, math.MaxInt} {
		checkRefused(t, newDisk(t, 100), shard, api.ErrArg)
		checkRefused(t, nil, shard, api.ErrArg)
		checkRefused(t, off, shard, api.ErrArg)
	}
	for shard := range api.MaxShards {
		checkRefused(t, nil, shard, api.ErrNone)
		checkRefused(t, off, shard, api.ErrCrash)
	}
}

func TestEachShardHasAFileOfItsOwn(t *testing.T) {
	d := newDisk(t, 1<<16)
	var names []string
	for shard := range api.MaxShards {
		c := mustOpen(t, d, shard)
		want(t, "Serve", c.Serve(uint64(shard+1)), api.OK)
		want(t, "Append", c.Append(op(uint64(shard+1), fmt.Sprint("s", shard))), api.OK)
		names = append(names, fmt.Sprint("shard-", shard))
	}
	if !slices.Equal(d.Names(), names) {
		t.Errorf("the files are %q", d.Names())
	}
	d.Restart(nil)
	for shard := range api.MaxShards {
		n := uint64(shard + 1)
		checkState(t, mustOpen(t, d, shard), copy.Terms{Heard: n, Served: n, Adopted: n}, ops(n, fmt.Sprint("s", shard)))
	}
}

// told: a disk on which a copy of shard 0 has been told of all sorts.
func told(t *testing.T) *disk.Disk {
	t.Helper()
	d := newDisk(t, 1<<20)
	c := mustOpen(t, d, 0)
	for _, e := range []api.Errno{
		c.Serve(1), c.Append(op(1, "a")), c.Append(op(1, "b")), c.Hear(3), c.Adopt(3, ops(1, "a", "c")),
		c.Adopt(3, append(ops(1, "a", "c"), op(3, "d"))), c.Append(op(3, "e")), c.Serve(4), c.Hear(5), c.Adopt(6, nil), c.Append(op(6, "f")),
	} {
		want(t, "a call", e, api.OK)
	}
	return d
}

func TestOpenTakesAnOpening(t *testing.T) {
	d := told(t)
	terms, l := copy.Terms{Heard: 6, Served: 4, Adopted: 6}, ops(6, "f")
	file := fileOf(d, 0)
	checkState(t, mustOpen(t, d, 0), terms, l)
	// What was begun behind the last record is cut off, and what a fall left beside it is removed.
	for _, behind := range []string{"", "x", "\xf1", "\xf1\x02\x00"} {
		d.Put("shard-0.new", []byte("left"))
		d.Append("shard-0", []byte(behind))
		checkState(t, mustOpen(t, d, 0), terms, l)
		if fileOf(d, 0) != file || !slices.Equal(d.Names(), []string{"shard-0"}) {
			t.Errorf("behind %q the files are %q, %x", behind, d.Names(), fileOf(d, 0))
		}
	}
	// What was kept of one shard was kept by a copy.
	d.Rename("shard-0", "shard-7")
	checkState(t, mustOpen(t, d, 7), terms, l)
	checkState(t, mustOpen(t, d, 0), copy.Terms{}, nil)
}

func TestOpenAnswersWalsErrors(t *testing.T) {
	d := newDisk(t, 40)
	d.Append("shard-0", make([]byte, 30))
	checkState(t, mustOpen(t, d, 0), copy.Terms{}, nil)
	d = newDisk(t, 40)
	c := mustOpen(t, d, 0)
	want(t, "Hear", c.Hear(1), api.OK)
	want(t, "Append", d.Append("shard-0", make([]byte, 40-d.Used())), api.OK)
	d.Append("shard-1", nil)
	// There is no room for the part that stays beside the whole.
	checkRefused(t, d, 0, api.ErrFull)
	for n := 1; n <= 3; n++ {
		d = told(t)
		d.Append("shard-0", []byte("x"))
		d.Arm(n)
		checkRefused(t, d, 0, api.ErrCrash)
		d.Restart(nil)
		checkState(t, mustOpen(t, d, 0), copy.Terms{Heard: 6, Served: 4, Adopted: 6}, ops(6, "f"))
	}
}

func TestOpenOfWhatNoCopyHasKept(t *testing.T) {
	for _, r := range []string{
		"", "x", "hello", "\x00", "\x01", "\x01\x02\x03", "\xff", "\xff\xff\xff\xff", "\xd0", "\xd1", "\xd2", "\xd3\x01", "\xd0\x80\x00", "shard-0",
		"\xd0\x00", "\xd1\x00", "\xd2\x00\x00", "\xd0\x01\x00", "\xd1\x01\x00", "\xd2\x01", "\xd2\x01\x01", "\xd2\x01\x80", "\xd2\x01\x00x",
		"\xd2\x01\x00\x01\x01a\x00\x00\x00", "\xd2\x01\x00\x01\x01 \x00\x00", "\xd2\x01\xff\xff\xff\xff\xff\xff\xff\xff\xff\x01", "\xd2\x01\x80\x80\x80\x80\x80\x80\x80\x80\x80\x01",
		string(modelBytes(op(1, "a"))),
	} {
		checkRefused(t, lay(t, "shard-0", []byte(r)), 0, api.ErrForm)
		d := told(t)
		checkRefused(t, lay(t, "shard-0", append(recordsOf(d, 0), []byte(r))...), 0, api.ErrForm)
		checkRefused(t, lay(t, "shard-0", append([][]byte{[]byte(r)}, recordsOf(d, 0)...)...), 0, api.ErrForm)
	}
}

// Of what a copy has kept no record stands there twice, or with more bytes, or with fewer, or ahead of those that it hangs on.
func TestOpenOfRecordsThatAreNotInTheirPlaces(t *testing.T) {
	l := recordsOf(told(t), 0)
	for i, r := range l {
		twice := slices.Insert(slices.Clone(l), i, r)
		checkRefused(t, lay(t, "shard-0", twice...), 0, api.ErrForm)
		for n := range r {
			cut := slices.Clone(l)
			cut[i] = r[:n]
			c, e := copy.Open(lay(t, "shard-0", cut...), 0)
			// A record of entries without its last ones is one too.
			if e == api.ErrForm && c == nil {
				continue
			}
			if e != api.OK || r[0] != 0xd2 {
				t.Errorf("with %x for %x: %d", r[:n], r, e)
			}
		}
		long := slices.Clone(l)
		long[i] = append(slices.Clone(r), 0)
		checkRefused(t, lay(t, "shard-0", long...), 0, api.ErrForm)
	}
	slices.Reverse(l)
	checkRefused(t, lay(t, "shard-0", l...), 0, api.ErrForm)
}

func TestOpenOfHistoriesThatNoCopyHasTaken(t *testing.T) {
	serve := []byte{0xd1, 5}
	a, b := modelBytes(op(5, "a")), modelBytes(op(5, "b"))
	record := func(term, same byte, l ...[]byte) []byte {
		return append([]byte{0xd2, term, same}, slices.Concat(l...)...)
	}
	checkState(t, mustOpen(t, lay(t, "shard-0", serve, record(5, 0, a, b)), 0), copy.Terms{Heard: 5, Served: 5, Adopted: 5}, ops(5, "a", "b"))
	checkState(t, mustOpen(t, lay(t, "shard-0", serve, record(5, 0, a, b), record(6, 2)), 0), copy.Terms{Heard: 6, Served: 5, Adopted: 6}, ops(5, "a", "b"))
	checkState(t, mustOpen(t, lay(t, "shard-0", serve, record(5, 0, a, b), record(6, 0, b)), 0), copy.Terms{Heard: 6, Served: 5, Adopted: 6}, ops(5, "b"))
	for _, l := range [][][]byte{
		{serve, record(4, 0, a)},                          // of a term below
		{serve, record(5, 1, a)},                          // behind an entry that there isn't
		{serve, record(5, 0)},                             // nothing that wasn't there
		{serve, record(5, 0, a, b), record(5, 1)},         // fewer
		{serve, record(5, 0, a, b), record(5, 0, b, a)},   // no more
		{serve, record(5, 0, a, b), record(6, 0, a)},      // laid down once more
		{serve, record(5, 0, a, b), record(6, 1, b, a)},   // likewise
		{serve, record(5, 0, a, b), record(6, 3)},         // more than there are
		{serve, record(5, 0, a), {0xd0, 7}, record(6, 1)}, // of a term below the one that was heard
		{serve, record(5, 0, a), {0xd0, 7}, {0xd1, 6}},    // likewise
		{serve, record(5, 0, a), {0xd0, 7}, {0xd0, 7}},    // nothing new
		{serve, record(5, 0, a), {0xd1, 5}},               // served already
		{{0xd0, 1}, {0xd0, 0}},                            // falls
	} {
		checkRefused(t, lay(t, "shard-0", l...), 0, api.ErrForm)
	}
}

// Whatever has become of a file's records, Open answers, and what it answers is a copy.
func TestOpenOfChangedRecords(t *testing.T) {
	r := rand.New(rand.NewSource(1))
	whole := recordsOf(told(t), 0)
	opened := 0
	for range 20000 {
		l := slices.Clone(whole)
		for range 1 + r.Intn(2) {
			i := r.Intn(len(l))
			switch r.Intn(4) {
			case 0:
				l = slices.Delete(l, i, i+1)
			case 1:
				j := r.Intn(len(l))
				l[i], l[j] = l[j], l[i]
			default:
				l[i] = bytes.Clone(l[i])
				l[i][r.Intn(len(l[i]))] = byte(r.Intn(256)) >> r.Intn(8)
			}
		}
		d := lay(t, "shard-0", l...)
		c, e := copy.Open(d, 0)
		if e != api.OK {
			if e != api.ErrForm || c != nil {
				t.Fatalf("Open of %x: %d", l, e)
			}
			continue
		}
		opened++
		if s := c.Terms(); s.Served > s.Adopted || s.Adopted > s.Heard || len(c.Ops()) != c.Len() {
			t.Fatalf("Open of %x: %v", l, s)
		}
		for _, o := range c.Ops() {
			if _, e := copy.Encode(o); e != api.OK {
				t.Fatalf("Open of %x: %v", l, o)
			}
		}
	}
	if opened < 1000 || opened > 19000 {
		t.Errorf("%d of 20000 were opened: little was tried", opened)
	}
}

func TestWhatOpenTellsIsDurable(t *testing.T) {
	d := newDisk(t, 1<<16)
	d.Append("shard-0", []byte(fileOf(told(t), 0)))
	checkKept(t, d, mustOpen(t, d, 0), 0)
	d = newDisk(t, 1<<16)
	d.Append("shard-0", []byte(fileOf(told(t), 0)))
	d.Arm(1)
	checkRefused(t, d, 0, api.ErrCrash)
}

// P16.3

func TestHear(t *testing.T) {
	d := newDisk(t, 1<<16)
	c := mustOpen(t, d, 0)
	unchanged(t, d, c, "Hear(0)", api.OK, func() api.Errno { return c.Hear(0) })
	heard := uint64(0)
	for _, term := range []uint64{1, 2, 5, 128, 1 << 40, math.MaxUint64 - 1, math.MaxUint64} {
		want(t, "Hear", c.Hear(term), api.OK)
		checkState(t, c, copy.Terms{Heard: term}, nil)
		for _, less := range []uint64{0, heard, term - 1} {
			unchanged(t, d, c, "Hear of less", api.ErrState, func() api.Errno { return c.Hear(less) })
		}
		unchanged(t, d, c, "Hear again", api.OK, func() api.Errno { return c.Hear(term) })
		c, heard = checkKept(t, d, c, 0), term
	}
}

func TestServe(t *testing.T) {
	d := newDisk(t, 1<<16)
	c := mustOpen(t, d, 0)
	unchanged(t, d, c, "Serve(0)", api.ErrState, func() api.Errno { return c.Serve(0) })
	for _, term := range []uint64{1, 2, 5, math.MaxUint64} {
		want(t, "Serve", c.Serve(term), api.OK)
		checkState(t, c, copy.Terms{Heard: term, Served: term, Adopted: term}, nil)
		for _, less := range []uint64{0, term - 1, term} {
			unchanged(t, d, c, "Serve again, or of less", api.ErrState, func() api.Errno { return c.Serve(less) })
		}
		c = checkKept(t, d, c, 0)
	}
}

// Of a term that was heard, and even adopted, but not served in.
func TestServeOfATermThatWasHeard(t *testing.T) {
	d := newDisk(t, 1<<16)
	c := mustOpen(t, d, 0)
	want(t, "Serve(1)", c.Serve(1), api.OK)
	want(t, "Append", c.Append(op(1, "a")), api.OK)
	want(t, "Hear(3)", c.Hear(3), api.OK)
	unchanged(t, d, c, "Serve(2)", api.ErrState, func() api.Errno { return c.Serve(2) })
	want(t, "Serve(3)", c.Serve(3), api.OK)
	checkState(t, c, copy.Terms{Heard: 3, Served: 3, Adopted: 3}, ops(1, "a"))
	want(t, "Adopt(4)", c.Adopt(4, ops(2, "b")), api.OK)
	want(t, "Serve(4)", c.Serve(4), api.OK)
	checkState(t, c, copy.Terms{Heard: 4, Served: 4, Adopted: 4}, ops(2, "b"))
	checkKept(t, d, c, 0)
}

func TestAppend(t *testing.T) {
	d := newDisk(t, 1<<16)
	c := mustOpen(t, d, 0)
	// Of a copy that was told nothing all terms are 0.
	want(t, "Append of term 0", c.Append(op(0, "z")), api.OK)
	unchanged(t, d, c, "Append of term 1", api.ErrState, func() api.Errno { return c.Append(op(1, "a")) })
	want(t, "Serve(5)", c.Serve(5), api.OK)
	l := ops(0, "z")
	for i := range 20 {
		// Nobody asks whether an ID is new.
		o := op(5, strings.Repeat("i", 1+i%3))
		want(t, "Append", c.Append(o), api.OK)
		l = append(l, o)
		checkState(t, c, copy.Terms{Heard: 5, Served: 5, Adopted: 5}, l)
		for _, term := range []uint64{0, 4, 6, math.MaxUint64} {
			unchanged(t, d, c, "Append of another term", api.ErrState, func() api.Errno { return c.Append(op(term, "a")) })
		}
		c = checkKept(t, d, c, 0)
	}
	want(t, "Hear(6)", c.Hear(6), api.OK)
	for _, term := range []uint64{5, 6} {
		unchanged(t, d, c, "Append behind Hear", api.ErrState, func() api.Errno { return c.Append(op(term, "a")) })
	}
	want(t, "Adopt(6)", c.Adopt(6, l), api.OK)
	want(t, "Append of term 6", c.Append(op(6, "a")), api.OK)
	checkState(t, c, copy.Terms{Heard: 6, Served: 5, Adopted: 6}, append(l, op(6, "a")))
	checkKept(t, d, c, 0)
}

// No entry goes ahead of a wrong term.
func TestAppendOfNoEntry(t *testing.T) {
	d := newDisk(t, 1<<16)
	c := mustOpen(t, d, 0)
	want(t, "Serve(5)", c.Serve(5), api.OK)
	for _, x := range wrong() {
		for _, term := range []uint64{4, 5, 6} {
			unchanged(t, d, c, "Append of none", api.ErrForm, func() api.Errno { return c.Append(api.Op{Term: term, Doc: x}) })
		}
	}
}

func TestAdopt(t *testing.T) {
	front := ops(1, "a", "b", "c")
	for _, l := range [][]api.Op{
		nil, ops(1, "a"), front, ops(1, "a", "b", "c", "d"), ops(1, "b"), ops(1, "a", "c", "b", "d", "e"), ops(2, "a", "b", "c"), ops(math.MaxUint64, "a"),
		{op(9, "a"), op(1, "a"), op(0, "a")}, append(ops(1, "a", "b"), api.Op{Term: 1, Doc: api.Doc{ID: "c"}}), big(1, 100),
	} {
		for _, term := range []uint64{2, 3, math.MaxUint64} {
			d := newDisk(t, 1<<20)
			c := mustOpen(t, d, 0)
			want(t, "Serve(1)", c.Serve(1), api.OK)
			for _, o := range front {
				want(t, "Append", c.Append(o), api.OK)
			}
			want(t, "Hear(2)", c.Hear(2), api.OK)
			want(t, "Adopt", c.Adopt(term, l), api.OK)
			checkState(t, c, copy.Terms{Heard: term, Served: 1, Adopted: term}, l)
			checkKept(t, d, c, 0)
		}
	}
}

func TestAdoptOfATermThatWasAdopted(t *testing.T) {
	for _, serves := range []bool{false, true} {
		d := newDisk(t, 1<<20)
		c := mustOpen(t, d, 0)
		terms := copy.Terms{Heard: 7, Adopted: 7}
		if serves {
			want(t, "Serve(7)", c.Serve(7), api.OK)
			terms.Served = 7
		}
		l := ops(1, "a", "b")
		want(t, "Adopt", c.Adopt(7, l), api.OK)
		for _, short := range [][]api.Op{nil, ops(1, "a"), ops(2, "x"), l, ops(3, "x", "y")} {
			unchanged(t, d, c, "Adopt of no more", api.OK, func() api.Errno { return c.Adopt(7, short) })
		}
		for _, long := range [][]api.Op{ops(1, "a", "b", "c"), append(ops(1, "a", "b", "c"), ops(7, "d", "e")...), ops(4, "p", "q", "r", "s", "t", "u")} {
			want(t, "Adopt of more", c.Adopt(7, long), api.OK)
			checkState(t, c, terms, long)
			c = checkKept(t, d, c, 0)
		}
	}
}

// Of a copy that was told nothing the term 0 is adopted.
func TestAdoptOfTermZero(t *testing.T) {
	d := newDisk(t, 1<<16)
	c := mustOpen(t, d, 0)
	unchanged(t, d, c, "Adopt(0)", api.OK, func() api.Errno { return c.Adopt(0, nil) })
	want(t, "Adopt(0, a)", c.Adopt(0, ops(0, "a")), api.OK)
	checkState(t, c, copy.Terms{}, ops(0, "a"))
	unchanged(t, d, c, "Adopt(0, b)", api.OK, func() api.Errno { return c.Adopt(0, ops(0, "b")) })
	checkKept(t, d, c, 0)
}

// A term below goes ahead of what is no entry; and that ahead of all else, also where nothing would change.
func TestAdoptRefuses(t *testing.T) {
	d := newDisk(t, 1<<16)
	c := mustOpen(t, d, 0)
	want(t, "Adopt(5)", c.Adopt(5, ops(1, "a", "b", "c")), api.OK)
	want(t, "Hear(6)", c.Hear(6), api.OK)
	for _, term := range []uint64{0, 4, 5} {
		for _, l := range [][]api.Op{nil, ops(1, "a"), {{}}, ops(1, "a", "b", "c", "d")} {
			unchanged(t, d, c, "Adopt of a term below", api.ErrState, func() api.Errno { return c.Adopt(term, l) })
		}
	}
	want(t, "Adopt(6)", c.Adopt(6, ops(1, "a", "b", "c")), api.OK)
	for _, x := range wrong() {
		none := api.Op{Term: 1, Doc: x}
		for _, l := range [][]api.Op{{none}, append(ops(1, "a"), none), append([]api.Op{none}, ops(1, "a")...), append(ops(1, "a", "b", "c"), none)} {
			for _, term := range []uint64{6, 7} {
				unchanged(t, d, c, "Adopt of none", api.ErrForm, func() api.Errno { return c.Adopt(term, l) })
			}
			unchanged(t, d, c, "Adopt of none, of a term below", api.ErrState, func() api.Errno { return c.Adopt(5, l) })
		}
	}
}

// What a frame can hold is taken, to the last byte; one byte more isn't, and nothing has changed.
func TestAdoptOfWhatAFrameCanNotHold(t *testing.T) {
	longest := 0
	for short := range 1200 {
		d := newDisk(t, 1<<20)
		c := mustOpen(t, d, 0)
		l := big(1, 127)
		for i := range l {
			cut := min(api.MaxText, max(0, short-i*api.MaxText))
			l[len(l)-1-i].Doc.Text = strings.Repeat("x", api.MaxText-cut)
		}
		e := c.Adopt(3, l)
		if e == api.ErrLong {
			checkState(t, c, copy.Terms{}, nil)
			if len(d.Names()) != 0 || longest > 0 {
				t.Fatalf("%d fewer bytes: %q, the longest one was %d", short, d.Names(), longest)
			}
			continue
		}
		want(t, "Adopt", e, api.OK)
		checkState(t, c, copy.Terms{Heard: 3, Adopted: 3}, l)
		if longest == 0 {
			longest = len(recordsOf(d, 0)[0])
			checkKept(t, d, c, 0)
		}
	}
	if longest != api.MaxFrame {
		t.Errorf("the longest record has %d bytes", longest)
	}
}

func TestAdoptOfTooMuch(t *testing.T) {
	d := newDisk(t, 1<<22)
	c := mustOpen(t, d, 0)
	want(t, "Adopt", c.Adopt(1, ops(1, "a")), api.OK)
	for _, term := range []uint64{1, 2} {
		unchanged(t, d, c, "Adopt of too much", api.ErrLong, func() api.Errno { return c.Adopt(term, big(1, 200)) })
		l := big(1, 200)
		l[199].Doc.ID = ""
		unchanged(t, d, c, "Adopt of too much, with none", api.ErrForm, func() api.Errno { return c.Adopt(term, l) })
		unchanged(t, d, c, "Adopt of too much, of a term below", api.ErrState, func() api.Errno { return c.Adopt(0, l) })
	}
	want(t, "Append", c.Append(op(1, "b")), api.OK)
	checkKept(t, d, c, 0)
}

// A history that is longer than a frame is taken bit by bit: what both have at the front needs no room.
func TestAdoptBitByBit(t *testing.T) {
	d := newDisk(t, 1<<23)
	c := mustOpen(t, d, 0)
	whole := big(1, api.MaxDocs)
	for n := 100; n < len(whole); n += 100 {
		want(t, "Adopt", c.Adopt(2, whole[:n]), api.OK)
	}
	want(t, "Adopt of all", c.Adopt(2, whole), api.OK)
	used := d.Used()
	want(t, "Adopt of all in another term", c.Adopt(3, whole), api.OK)
	want(t, "Adopt of fewer", c.Adopt(4, whole[:4000]), api.OK)
	if d.Used() > used+50 {
		t.Errorf("%d bytes more for what was there", d.Used()-used)
	}
	checkState(t, c, copy.Terms{Heard: 4, Adopted: 4}, whole[:4000])
	checkKept(t, d, c, 0)
}

// calls: one of each, done to a copy of told.
func calls(c *copy.Copy) map[string]func() api.Errno {
	return map[string]func() api.Errno{
		"Hear":        func() api.Errno { return c.Hear(7) },
		"Serve":       func() api.Errno { return c.Serve(7) },
		"Append":      func() api.Errno { return c.Append(op(6, "g")) },
		"Adopt":       func() api.Errno { return c.Adopt(7, ops(7, "p", "q", "r")) },
		"Adopt more":  func() api.Errno { return c.Adopt(6, ops(6, "f", "g", "h")) },
		"Adopt fewer": func() api.Errno { return c.Adopt(8, nil) },
	}
}

func TestFullDisk(t *testing.T) {
	for what := range calls(nil) {
		// With just the room that it needs a call is done, with a byte less it isn't.
		d := told(t)
		before := d.Used()
		want(t, what, calls(mustOpen(t, d, 0))[what](), api.OK)
		needs := d.Used() - before
		for _, room := range []int{0, 1, needs - 1, needs} {
			d := told(t)
			d.Append("rest", make([]byte, 1<<20-d.Used()-room))
			c := mustOpen(t, d, 0)
			if room == needs {
				want(t, what, calls(c)[what](), api.OK)
				checkKept(t, d, c, 0)
				continue
			}
			unchanged(t, d, c, what, api.ErrFull, calls(c)[what])
			// It goes on as soon as there is room, no more than it needs.
			d.Remove("rest")
			d.Append("rest", make([]byte, 1<<20-d.Used()-needs))
			want(t, what+" later", calls(c)[what](), api.OK)
			checkKept(t, d, c, 0)
		}
	}
}

// What changes nothing needs no disk.
func TestWhatChangesNothingOnADiskThatIsOff(t *testing.T) {
	d := told(t)
	c := mustOpen(t, d, 0)
	d.Arm(1)
	want(t, "Hear(7)", c.Hear(7), api.ErrCrash)
	terms, l := copy.Terms{Heard: 6, Served: 4, Adopted: 6}, ops(6, "f")
	checkState(t, c, terms, l)
	want(t, "Hear(6)", c.Hear(6), api.OK)
	want(t, "Adopt(6)", c.Adopt(6, ops(6, "x")), api.OK)
	want(t, "Hear(5)", c.Hear(5), api.ErrState)
	want(t, "Serve(5)", c.Serve(5), api.ErrState)
	want(t, "Append of none", c.Append(api.Op{}), api.ErrForm)
	want(t, "Append of term 5", c.Append(op(5, "a")), api.ErrState)
	want(t, "Adopt(5)", c.Adopt(5, nil), api.ErrState)
	want(t, "Adopt of none", c.Adopt(6, []api.Op{{}}), api.ErrForm)
	want(t, "Adopt of too much", c.Adopt(6, big(1, 200)), api.ErrLong)
	for what, call := range calls(c) {
		want(t, what, call(), api.ErrCrash)
	}
	checkState(t, c, terms, l)
}

// P16.4

// Wherever the power goes off, and whatever is lost then, all of it or nothing is there.
func TestEachFallInEachCall(t *testing.T) {
	for what := range calls(nil) {
		before := stateOf(mustOpen(t, told(t), 0))
		c := mustOpen(t, told(t), 0)
		want(t, what, calls(c)[what](), api.OK)
		after := stateOf(c)
		nothing, all := 0, 0
		for n := 1; ; n++ {
			d := told(t)
			c := mustOpen(t, d, 0)
			d.Arm(n)
			e := calls(c)[what]()
			if e == api.OK {
				// So many operations are all that there are.
				break
			}
			want(t, what, e, api.ErrCrash)
			if stateOf(c) != before {
				t.Errorf("%s, armed at %d: %v", what, n, stateOf(c))
			}
			loose := d.Used() - d.Sure("shard-0")
			for keep := -1; keep <= loose+1; keep++ {
				d := told(t)
				c := mustOpen(t, d, 0)
				d.Arm(n)
				want(t, what, calls(c)[what](), api.ErrCrash)
				d.Restart([]int{keep})
				switch now := stateOf(mustOpen(t, d, 0)); now {
				case before:
					nothing++
				case after:
					all++
				default:
					t.Errorf("%s, armed at %d, %d bytes kept: %v", what, n, keep, now)
				}
			}
		}
		if nothing == 0 || all == 0 {
			t.Errorf("%s: %d times nothing, %d times all", what, nothing, all)
		}
	}
}

// A copy that isn't opened again behind a fall tells nothing to be kept that isn't.
func TestACopyThatGoesOnBehindAFall(t *testing.T) {
	for first := range calls(nil) {
		for what := range calls(nil) {
			for n := 1; n <= 2; n++ {
				for keep := range 12 {
					d := told(t)
					c := mustOpen(t, d, 0)
					d.Arm(n)
					want(t, first, calls(c)[first](), api.ErrCrash)
					want(t, what+" while the power is off", calls(c)[what](), api.ErrCrash)
					d.Restart([]int{keep})
					want(t, what, calls(c)[what](), api.OK)
					want(t, "Hear", c.Hear(9), api.OK)
					checkKept(t, d, c, 0)
				}
			}
		}
	}
}

// While there is no room to mend the file nothing is said to be kept.
func TestACopyThatGoesOnWithoutRoom(t *testing.T) {
	d := told(t)
	c := mustOpen(t, d, 0)
	before := stateOf(c)
	d.Arm(1)
	want(t, "Append", c.Append(op(6, "g")), api.ErrCrash)
	d.Restart([]int{5})
	d.Append("rest", make([]byte, 1<<20-d.Used()-60))
	want(t, "Hear(7)", c.Hear(7), api.ErrFull)
	d.Remove("rest")
	d.Arm(2)
	want(t, "Hear(7)", c.Hear(7), api.ErrCrash)
	if stateOf(c) != before {
		t.Errorf("%v, before it %v", stateOf(c), before)
	}
	d.Restart([]int{99, 99})
	want(t, "Hear(7)", c.Hear(7), api.OK)
	// From then on it needs no more room than any other one.
	d.Append("rest", make([]byte, 1<<20-d.Used()-len("\xf1\x02....\xd0\x08\x1f")))
	want(t, "Hear(8)", c.Hear(8), api.OK)
	d.Remove("rest")
	checkKept(t, d, c, 0)
}

func TestNilCopy(t *testing.T) {
	var c *copy.Copy
	for _, term := range []uint64{0, 1, math.MaxUint64} {
		want(t, "Hear", c.Hear(term), api.ErrNone)
		want(t, "Serve", c.Serve(term), api.ErrNone)
		for _, o := range []api.Op{{}, op(term, "a"), {Term: term}} {
			want(t, "Append", c.Append(o), api.ErrNone)
			want(t, "Adopt", c.Adopt(term, []api.Op{o}), api.ErrNone)
		}
		want(t, "Adopt", c.Adopt(term, nil), api.ErrNone)
	}
	checkState(t, c, copy.Terms{}, nil)
}

// The rules on memory

func TestArgumentsAreNeitherChangedNorKept(t *testing.T) {
	d := newDisk(t, 1<<16)
	c := mustOpen(t, d, 0)
	room := ops(1, "a", "b", "c", "d")
	was := slices.Clone(room)
	for i, n := range []int{1, 3, 2} {
		want(t, "Adopt", c.Adopt(uint64(i+1), room[:n]), api.OK)
		want(t, "Append", c.Append(op(uint64(i+1), "e")), api.OK)
	}
	if !slices.Equal(room, was) {
		t.Errorf("an argument was changed: %v", room)
	}
	for i := range room {
		room[i] = op(9, "!")
	}
	checkState(t, c, copy.Terms{Heard: 3, Adopted: 3}, append(ops(1, "a", "b"), op(3, "e")))
	p := modelBytes(op(1, "a"))
	o, _ := copy.Decode(p)
	for i := range p {
		p[i] = '!'
	}
	if o != op(1, "a") {
		t.Errorf("Decode kept its argument: %v", o)
	}
}

func TestAnswersAreNewMemory(t *testing.T) {
	d := newDisk(t, 1<<16)
	c := mustOpen(t, d, 0)
	want(t, "Serve", c.Serve(1), api.OK)
	for _, id := range []string{"a", "b", "c", "d", "e"} {
		want(t, "Append", c.Append(op(1, id)), api.OK)
		l, again := c.Ops(), c.Ops()
		was := slices.Clone(again)
		for i := range l[:cap(l)] {
			l[:cap(l)][i] = op(9, "!")
		}
		if !slices.Equal(again, was) {
			t.Errorf("two answers share memory: %v", again)
		}
	}
	// What was told stays, also where the history goes on in another way.
	l := c.Ops()
	want(t, "Adopt", c.Adopt(2, ops(1, "a", "x", "y", "z")), api.OK)
	if !slices.Equal(l, ops(1, "a", "b", "c", "d", "e")) {
		t.Errorf("what was told has changed: %v", l)
	}
	checkState(t, c, copy.Terms{Heard: 2, Served: 1, Adopted: 2}, ops(1, "a", "x", "y", "z"))
	p, _ := copy.Encode(op(1, "a"))
	again, _ := copy.Encode(op(1, "a"))
	for i := range p[:cap(p)] {
		p[:cap(p)][i] = '!'
	}
	if !bytes.Equal(again, modelBytes(op(1, "a"))) {
		t.Errorf("two answers share memory: %x", again)
	}
}
