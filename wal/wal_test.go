package wal_test

import (
	"bytes"
	"fmt"
	"math"
	"slices"
	"strings"
	"testing"

	"fascine/api"
	"fascine/disk"
	"fascine/pack"
	"fascine/wal"
)

// The signatures that the chapter lists.
var (
	_ func([]byte) ([][]byte, int)                   = wal.Scan
	_ func(*disk.Disk, string) (*wal.Log, api.Errno) = wal.Open
	_ func(*wal.Log, []byte) api.Errno               = (*wal.Log).Append
	_ func(*wal.Log) api.Errno                       = (*wal.Log).Sync
	_ func(*wal.Log, int, [][]byte) api.Errno        = (*wal.Log).Set
	_ func(*wal.Log) int                             = (*wal.Log).Len
	_ func(*wal.Log, int) ([]byte, api.Errno)        = (*wal.Log).At
)

func newDisk(t *testing.T, room int) *disk.Disk {
	t.Helper()
	d, e := disk.New(room)
	if e != api.OK {
		t.Fatalf("New(%d): %d", room, e)
	}
	return d
}

func open(t *testing.T, d *disk.Disk, name string) *wal.Log {
	t.Helper()
	g, e := wal.Open(d, name)
	if e != api.OK || g == nil {
		t.Fatalf("Open(%s) = %v, %d", name, g, e)
	}
	return g
}

func want(t *testing.T, what string, got, e api.Errno) {
	t.Helper()
	if got != e {
		t.Errorf("%s: %d, want %d", what, got, e)
	}
}

func recordsOf(l ...string) [][]byte {
	var records [][]byte
	for _, s := range l {
		records = append(records, []byte(s))
	}
	return records
}

// framed: the frames of records, one behind the other.
func framed(l ...string) string {
	var p []byte
	for _, s := range l {
		f, _ := pack.Frame([]byte(s))
		p = append(p, f...)
	}
	return string(p)
}

func textsOf(records [][]byte) []string {
	var l []string
	for _, r := range records {
		l = append(l, string(r))
	}
	return l
}

// told: the records that a log tells.
func told(t *testing.T, g *wal.Log) []string {
	t.Helper()
	var l []string
	for i := range g.Len() {
		r, e := g.At(i)
		if e != api.OK {
			t.Errorf("At(%d) of %d: %d", i, g.Len(), e)
		}
		l = append(l, string(r))
	}
	return l
}

func wantLog(t *testing.T, g *wal.Log, l ...string) {
	t.Helper()
	if got := told(t, g); !slices.Equal(got, l) {
		t.Errorf("the records are %.200q, want %.200q", got, l)
	}
}

// wantFile: the file has these bytes, of which so many are durable.
func wantFile(t *testing.T, d *disk.Disk, name, data string, sure int) {
	t.Helper()
	p, e := d.Read(name)
	if string(p) != data || e != api.OK || d.Sure(name) != sure {
		t.Errorf("the file %s has %.200x (%d), Sure %d, want %.200x, %d", name, p, e, d.Sure(name), data, sure)
	}
}

func wantNames(t *testing.T, d *disk.Disk, names ...string) {
	t.Helper()
	if got := d.Names(); !slices.Equal(got, names) {
		t.Errorf("the files are %q, want %q", got, names)
	}
}

// lay: a file of these bytes, all durable.
func lay(d *disk.Disk, name, data string) {
	d.Append(name, []byte(data))
	d.Sync(name)
}

// state: all that a log and its disk tell.
func state(t *testing.T, d *disk.Disk, g *wal.Log) string {
	var b strings.Builder
	fmt.Fprintf(&b, "%d %v %q", d.Ops(), d.On(), told(t, g))
	for _, name := range d.Names() {
		p, _ := d.Read(name)
		fmt.Fprintf(&b, " %s %x %d", name, p, d.Sure(name))
	}
	return b.String()
}

// unchanged: the call answers that error, and nothing that the log and the disk tell has changed.
func unchanged(t *testing.T, d *disk.Disk, g *wal.Log, what string, e api.Errno, call func() api.Errno) {
	t.Helper()
	before := state(t, d, g)
	want(t, what, call(), e)
	if now := state(t, d, g); now != before {
		t.Errorf("%s: %.300s, before it %.300s", what, now, before)
	}
}

// P4.1

func TestScan(t *testing.T) {
	inner := framed("x", "y")
	for _, l := range [][]string{
		nil, {""}, {"a"}, {"", ""}, {"a", "bc", "", "def"}, {inner, "z"},
		{strings.Repeat("m", api.MaxFrame), "z"}, {"\xf1", "\x1f", "\x1f\xf1"},
	} {
		p := framed(l...)
		for _, behind := range []string{"", "\x00", "\xf1", "\x1f", "x" + framed("late"), framed("late")[1:], framed("part")[:7]} {
			got, at := wal.Scan([]byte(p + behind))
			if !slices.Equal(textsOf(got), l) || at != len(p) {
				t.Errorf("Scan(%.200x and %x) = %.200q, %d, want %.200q, %d", p, behind, got, at, l, len(p))
			}
		}
	}
	if got, at := wal.Scan(nil); len(got) != 0 || at != 0 {
		t.Errorf("Scan(nil) = %q, %d", got, at)
	}
}

func TestScanOfEachFront(t *testing.T) {
	l := []string{"first", "", "the third one"}
	p := framed(l...)
	for n := range len(p) + 1 {
		whole := 0
		for whole < len(l) && len(framed(l[:whole+1]...)) <= n {
			whole++
		}
		got, at := wal.Scan([]byte(p[:n]))
		if !slices.Equal(textsOf(got), l[:whole]) || at != len(framed(l[:whole]...)) {
			t.Errorf("Scan of %d bytes = %q, %d", n, got, at)
		}
	}
}

func TestScanStopsAtAFrameThatIsNotRight(t *testing.T) {
	front, p := framed("first"), []byte(framed("first", "second", "third"))
	for i := len(front); i < len(framed("first", "second")); i++ {
		bad := bytes.Clone(p)
		bad[i] ^= 0x04
		if got, at := wal.Scan(bad); !slices.Equal(textsOf(got), []string{"first"}) || at != len(front) {
			t.Errorf("Scan with a wrong byte at %d = %q, %d", i, got, at)
		}
	}
}

// P4.2

func TestOpenOfNoFile(t *testing.T) {
	d := newDisk(t, 100)
	g := open(t, d, "log")
	wantLog(t, g)
	wantNames(t, d)
	wantLog(t, open(t, d, "log"))
}

func TestOpenFindsTheRecords(t *testing.T) {
	for _, l := range [][]string{{"a"}, {""}, {"a", "", "bc"}} {
		d := newDisk(t, 100)
		lay(d, "log", framed(l...))
		lay(d, "other", "not frames")
		ops := d.Ops()
		wantLog(t, open(t, d, "log"), l...)
		wantNames(t, d, "log", "other")
		wantFile(t, d, "log", framed(l...), len(framed(l...)))
		wantFile(t, d, "other", "not frames", 10)
		if d.Ops() != ops {
			t.Errorf("Open of a file that is whole did %d operations", d.Ops()-ops)
		}
	}
}

func TestOpenFindsWhatIsNotDurable(t *testing.T) {
	d := newDisk(t, 100)
	g := open(t, d, "log")
	g.Append([]byte("a"))
	g = open(t, d, "log")
	wantLog(t, g, "a")
	want(t, "Sync", g.Sync(), api.OK)
	d.Restart(nil)
	wantLog(t, open(t, d, "log"), "a")
}

func TestOpenCutsOffDurably(t *testing.T) {
	for _, front := range [][]string{nil, {""}, {"a"}, {"a", "bc"}} {
		for _, behind := range []string{"x", "\xf1", framed("late")[:9], "x" + framed("late"), "\xf1\x00\x00\x00\x00\x01\x1f"} {
			for _, loose := range []bool{false, true} {
				d := newDisk(t, 200)
				p := framed(front...)
				d.Append("log", []byte(p+behind))
				if !loose {
					d.Sync("log")
				}
				g := open(t, d, "log")
				wantLog(t, g, front...)
				wantFile(t, d, "log", p, len(p))
				wantNames(t, d, "log")
				d.Restart([]int{99, 99})
				wantFile(t, d, "log", p, len(p))
				g = open(t, d, "log")
				want(t, "Append", g.Append([]byte("next")), api.OK)
				wantLog(t, open(t, d, "log"), append(slices.Clone(front), "next")...)
			}
		}
	}
}

func TestOpenRemovesTheNewFile(t *testing.T) {
	for _, old := range []string{"", "garbage", framed("n")} {
		d := newDisk(t, 200)
		d.Put("log.new", []byte(old))
		lay(d, "log.newer", "stays")
		lay(d, "blog.new", "stays")
		wantLog(t, open(t, d, "log"))
		wantNames(t, d, "blog.new", "log.newer")
		d.Put("log.new", []byte(old))
		lay(d, "log", framed("a"))
		wantLog(t, open(t, d, "log"), "a")
		wantNames(t, d, "blog.new", "log", "log.newer")
		d.Put("log.new", []byte(old))
		lay(d, "log", "tail")
		wantLog(t, open(t, d, "log"), "a")
		wantNames(t, d, "blog.new", "log", "log.newer")
		wantFile(t, d, "log", framed("a"), len(framed("a")))
		wantFile(t, d, "blog.new", "stays", 5)
		wantFile(t, d, "log.newer", "stays", 5)
	}
}

func wantRefused(t *testing.T, d *disk.Disk, name string, e api.Errno) {
	t.Helper()
	ops, names, used := d.Ops(), d.Names(), d.Used()
	if g, got := wal.Open(d, name); g != nil || got != e {
		t.Errorf("Open(%q) = %v, %d, want %d", name, g, got, e)
	}
	if d.Ops() != ops || !slices.Equal(d.Names(), names) || d.Used() != used {
		t.Errorf("Open(%q) has changed the disk", name)
	}
}

func TestOpenRefuses(t *testing.T) {
	most := strings.Repeat("n", api.MaxName-4)
	bad := []string{"", "A", "a/b", "a b", "\xff", most + "n", most + "nnnn", most + "nnnnn", strings.Repeat("N", 99)}
	on, off := newDisk(t, 100), newDisk(t, 100)
	for _, d := range []*disk.Disk{on, off} {
		lay(d, most+"n", framed("a")+"tail")
		lay(d, "log", framed("a")+"tail")
		lay(d, "log.new", "x")
	}
	off.Arm(1)
	off.Append("x", nil)
	for _, name := range bad {
		wantRefused(t, nil, name, api.ErrNone)
		wantRefused(t, on, name, api.ErrArg)
		wantRefused(t, off, name, api.ErrArg)
	}
	wantRefused(t, nil, "log", api.ErrNone)
	wantRefused(t, off, "log", api.ErrCrash)
	wantRefused(t, off, "none", api.ErrCrash)
	wantRefused(t, off, most, api.ErrCrash)
}

func TestNameAtItsLimitIsUsed(t *testing.T) {
	most := strings.Repeat("n", api.MaxName-4)
	d := newDisk(t, 200)
	lay(d, most, framed("a")+"tail")
	g := open(t, d, most)
	wantLog(t, g, "a")
	want(t, "Set", g.Set(1, recordsOf("b")), api.OK)
	want(t, "Append", g.Append([]byte("c")), api.OK)
	wantNames(t, d, most)
	wantLog(t, open(t, d, most), "a", "b", "c")
}

func TestOpenWithoutRoomForTheCut(t *testing.T) {
	p := framed("a", "b")
	d := newDisk(t, 2*len(p))
	lay(d, "log", p+"t")
	wantRefused(t, d, "log", api.ErrFull)
	wantFile(t, d, "log", p+"t", len(p)+1)
	enough := newDisk(t, 2*len(p)+1)
	lay(enough, "log", p+"t")
	wantLog(t, open(t, enough, "log"), "a", "b")
}

func TestOpenGoesOffInEachOfItsOperations(t *testing.T) {
	for _, tail := range []string{"", "tail"} {
		for _, keep := range []int{0, 1, 999} {
			for n := 1; ; n++ {
				d := newDisk(t, 200)
				lay(d, "log", framed("a", "b")+tail)
				d.Put("log.new", []byte("from an earlier fall"))
				d.Arm(n)
				g, e := wal.Open(d, "log")
				if e == api.OK {
					if n < 2 {
						t.Errorf("Open did no operation with %q", tail)
					}
					break
				}
				if g != nil || e != api.ErrCrash {
					t.Errorf("Open that goes off in operation %d = %v, %d", n, g, e)
				}
				d.Restart([]int{keep, keep})
				wantLog(t, open(t, d, "log"), "a", "b")
				wantNames(t, d, "log")
				wantFile(t, d, "log", framed("a", "b"), len(framed("a", "b")))
			}
		}
	}
}

// P4.3

func TestAppend(t *testing.T) {
	d := newDisk(t, 200)
	g := open(t, d, "log")
	var l []string
	for _, s := range []string{"a", "", "bc", framed("in"), "a"} {
		want(t, "Append", g.Append([]byte(s)), api.OK)
		l = append(l, s)
		wantLog(t, g, l...)
		wantFile(t, d, "log", framed(l...), 0)
	}
	want(t, "Append of nil", g.Append(nil), api.OK)
	wantLog(t, g, append(l, "")...)
	wantNames(t, d, "log")
}

func TestAppendAtItsLimit(t *testing.T) {
	d := newDisk(t, api.MaxRoom)
	g := open(t, d, "log")
	most := strings.Repeat("m", api.MaxFrame)
	want(t, "Append", g.Append([]byte(most)), api.OK)
	wantLog(t, g, most)
	want(t, "Sync", g.Sync(), api.OK)
	unchanged(t, d, g, "Append of one more", api.ErrLong, func() api.Errno { return g.Append([]byte(most + "m")) })
	wantLog(t, open(t, d, "log"), most)
}

func TestAppendWithoutRoom(t *testing.T) {
	d := newDisk(t, len(framed("a", "bc")))
	g := open(t, d, "log")
	unchanged(t, d, g, "Append of too much", api.ErrFull, func() api.Errno { return g.Append(make([]byte, 100)) })
	wantNames(t, d)
	want(t, "Append", g.Append([]byte("a")), api.OK)
	unchanged(t, d, g, "Append of 3", api.ErrFull, func() api.Errno { return g.Append([]byte("bcd")) })
	unchanged(t, d, g, "Append of too long a one", api.ErrLong, func() api.Errno { return g.Append(make([]byte, api.MaxFrame+1)) })
	want(t, "Append of 2", g.Append([]byte("bc")), api.OK)
	wantLog(t, g, "a", "bc")
	wantLog(t, open(t, d, "log"), "a", "bc")
}

func TestAppendIsDurableBehindASync(t *testing.T) {
	d := newDisk(t, 200)
	g := open(t, d, "log")
	g.Append([]byte("a"))
	g.Append([]byte("b"))
	want(t, "Sync", g.Sync(), api.OK)
	g.Append([]byte("c"))
	wantFile(t, d, "log", framed("a", "b", "c"), len(framed("a", "b")))
	d.Restart(nil)
	wantLog(t, open(t, d, "log"), "a", "b")
}

func TestSyncWithoutAFile(t *testing.T) {
	d := newDisk(t, 100)
	g := open(t, d, "log")
	unchanged(t, d, g, "Sync", api.OK, g.Sync)
	d.Arm(1)
	want(t, "Append elsewhere", d.Append("x", nil), api.ErrCrash)
	want(t, "Sync, off", g.Sync(), api.ErrCrash)
}

// A file that somebody else has removed isn't one that there is not yet: its records are durable nowhere.
func TestSyncOfAFileThatIsGone(t *testing.T) {
	d := newDisk(t, 100)
	g := open(t, d, "log")
	g.Append([]byte("a"))
	d.Remove("log")
	want(t, "Sync", g.Sync(), api.ErrNone)
}

func TestSyncThatGoesOff(t *testing.T) {
	d := newDisk(t, 100)
	g := open(t, d, "log")
	g.Append([]byte("a"))
	d.Arm(1)
	want(t, "Sync", g.Sync(), api.ErrCrash)
	want(t, "Sync, off", g.Sync(), api.ErrCrash)
	d.Restart(nil)
	wantLog(t, open(t, d, "log"))
}

func TestSet(t *testing.T) {
	for keep := range 4 {
		for _, more := range [][]string{nil, {"x"}, {"", "yz", ""}, {"b", "c"}} {
			d := newDisk(t, 200)
			g := open(t, d, "log")
			g.Append([]byte("a"))
			g.Sync()
			g.Append([]byte("b"))
			g.Append([]byte("c"))
			want(t, "Set", g.Set(keep, recordsOf(more...)), api.OK)
			l := append([]string{"a", "b", "c"}[:keep:keep], more...)
			wantLog(t, g, l...)
			wantNames(t, d, "log")
			wantFile(t, d, "log", framed(l...), len(framed(l...)))
			want(t, "Append", g.Append([]byte("n")), api.OK)
			want(t, "Sync", g.Sync(), api.OK)
			wantLog(t, g, append(l, "n")...)
			d.Restart(nil)
			wantLog(t, open(t, d, "log"), append(l, "n")...)
		}
	}
}

func TestSetWithoutAFile(t *testing.T) {
	for _, more := range [][]string{nil, {"x", ""}} {
		d := newDisk(t, 100)
		g := open(t, d, "log")
		want(t, "Set", g.Set(0, recordsOf(more...)), api.OK)
		wantLog(t, g, more...)
		want(t, "Sync", g.Sync(), api.OK)
		d.Restart(nil)
		g = open(t, d, "log")
		wantLog(t, g, more...)
		want(t, "Set of nothing", g.Set(0, nil), api.OK)
		want(t, "Sync of nothing", g.Sync(), api.OK)
		wantLog(t, g)
		wantLog(t, open(t, d, "log"))
	}
}

func TestSetRefuses(t *testing.T) {
	long := make([]byte, api.MaxFrame+1)
	on, off := newDisk(t, 40), newDisk(t, 40)
	gOn, gOff := open(t, on, "log"), open(t, off, "log")
	for _, g := range []*wal.Log{gOn, gOff} {
		g.Append([]byte("a"))
		g.Append([]byte("b"))
	}
	off.Arm(1)
	off.Append("x", nil)
	for _, c := range []struct {
		keep    int
		more    [][]byte
		on, off api.Errno
	}{
		{-1, nil, api.ErrArg, api.ErrArg},
		{3, nil, api.ErrArg, api.ErrArg},
		{math.MinInt, recordsOf("x"), api.ErrArg, api.ErrArg},
		{math.MaxInt, recordsOf("x"), api.ErrArg, api.ErrArg},
		{-1, [][]byte{long}, api.ErrArg, api.ErrArg},
		{3, [][]byte{long}, api.ErrArg, api.ErrArg},
		{0, [][]byte{long}, api.ErrLong, api.ErrLong},
		{2, [][]byte{nil, long}, api.ErrLong, api.ErrLong},
		{1, [][]byte{long, nil}, api.ErrLong, api.ErrLong},
		{2, [][]byte{make([]byte, 100)}, api.ErrFull, api.ErrCrash},
		{2, recordsOf("12", "3"), api.ErrFull, api.ErrCrash},
	} {
		unchanged(t, on, gOn, fmt.Sprint("Set of ", c.keep, len(c.more)), c.on, func() api.Errno { return gOn.Set(c.keep, c.more) })
		unchanged(t, off, gOff, fmt.Sprint("Set, off, of ", c.keep, len(c.more)), c.off, func() api.Errno { return gOff.Set(c.keep, c.more) })
	}
	want(t, "Set, off", gOff.Set(0, nil), api.ErrCrash)
	want(t, "Set", gOn.Set(2, recordsOf("x")), api.OK)
	wantLog(t, gOn, "a", "b", "x")
	wantLog(t, open(t, on, "log"), "a", "b", "x")
}

func TestSetAtItsLimit(t *testing.T) {
	d := newDisk(t, api.MaxRoom)
	g := open(t, d, "log")
	most := strings.Repeat("m", api.MaxFrame)
	want(t, "Set", g.Set(0, recordsOf(most, "", most)), api.OK)
	wantLog(t, g, most, "", most)
	wantLog(t, open(t, d, "log"), most, "", most)
}

// Behind a crash in each of the operations of a Set the records are those that were there, or those that were set.
func TestSetHappensAtOnce(t *testing.T) {
	for _, synced := range []bool{true, false} {
		for keep := range 3 {
			for _, more := range [][]string{nil, {"x"}, {"x", "a longer one", ""}} {
				for _, kept := range []int{0, 1, 8, 9, 17, 999} {
					setThatGoesOff(t, synced, keep, more, kept)
				}
			}
		}
	}
}

func setThatGoesOff(t *testing.T, synced bool, keep int, more []string, kept int) {
	t.Helper()
	after := append([]string{"a", "b"}[:keep:keep], more...)
	for n := 1; ; n++ {
		d := newDisk(t, 300)
		g := open(t, d, "log")
		g.Append([]byte("a"))
		g.Append([]byte("b"))
		before := [][]string{{"a", "b"}}
		if synced {
			g.Sync()
		} else {
			before = [][]string{nil, {"a"}, {"a", "b"}}
		}
		d.Arm(n)
		e := g.Set(keep, recordsOf(more...))
		if e == api.OK {
			if n == 1 {
				t.Error("Set did no operation")
			}
			return
		}
		want(t, "Set that goes off", e, api.ErrCrash)
		d.Restart([]int{kept, kept})
		got := told(t, open(t, d, "log"))
		if !slices.ContainsFunc(append(before, after), func(l []string) bool { return slices.Equal(l, got) }) {
			t.Errorf("Set(%d, %q) that goes off in operation %d, keeping %d: %q", keep, more, n, kept, got)
		}
		wantNames(t, d, "log")
	}
}

// A log that is set again behind a fall isn't held up by what the fall has left.
func TestSetBehindAFall(t *testing.T) {
	for n := 1; n <= 3; n++ {
		setBehindAFall(t, n, true)
		setBehindAFall(t, n, false)
	}
}

func setBehindAFall(t *testing.T, n int, anew bool) {
	t.Helper()
	d := newDisk(t, 300)
	g := open(t, d, "log")
	g.Append([]byte("a"))
	g.Sync()
	d.Arm(n)
	want(t, "Set that goes off", g.Set(1, recordsOf("b")), api.ErrCrash)
	d.Restart([]int{99, 99})
	if anew {
		g = open(t, d, "log")
	}
	want(t, "Set", g.Set(0, recordsOf("c")), api.OK)
	wantLog(t, g, "c")
	wantLog(t, open(t, d, "log"), "c")
	wantNames(t, d, "log")
}

// P4.4

func TestAt(t *testing.T) {
	d := newDisk(t, 100)
	g := open(t, d, "log")
	none := func(l ...int) {
		t.Helper()
		for _, i := range append(l, math.MinInt, -1, math.MaxInt) {
			if r, e := g.At(i); len(r) != 0 || e != api.ErrNone {
				t.Errorf("At(%d) of %d = %q, %d", i, g.Len(), r, e)
			}
		}
	}
	none(0)
	g.Append([]byte("a"))
	none(1, 2)
	g.Append(nil)
	if r, e := g.At(1); len(r) != 0 || e != api.OK || g.Len() != 2 {
		t.Errorf("At(1) of %d = %q, %d", g.Len(), r, e)
	}
	g.Set(1, nil)
	none(1)
	if r, e := g.At(0); string(r) != "a" || e != api.OK || g.Len() != 1 {
		t.Errorf("At(0) of %d = %q, %d", g.Len(), r, e)
	}
}

func TestWhatIsThereIsToldWithThePowerOff(t *testing.T) {
	d := newDisk(t, 100)
	g := open(t, d, "log")
	g.Append([]byte("a"))
	d.Arm(1)
	d.Append("x", nil)
	wantLog(t, g, "a")
}

func TestNilLog(t *testing.T) {
	var g *wal.Log
	want(t, "Append", g.Append([]byte("a")), api.ErrNone)
	want(t, "Append of too long a one", g.Append(make([]byte, api.MaxFrame+1)), api.ErrNone)
	want(t, "Sync", g.Sync(), api.ErrNone)
	for _, keep := range []int{-1, 0, 1} {
		want(t, "Set", g.Set(keep, nil), api.ErrNone)
		if r, e := g.At(keep); len(r) != 0 || e != api.ErrNone {
			t.Errorf("At(%d) = %q, %d", keep, r, e)
		}
	}
	if g.Len() != 0 {
		t.Errorf("Len = %d", g.Len())
	}
}

func TestExample(t *testing.T) {
	d := newDisk(t, 1000)
	g := open(t, d, "log")
	want(t, "Append", g.Append([]byte("a")), api.OK)
	want(t, "Sync", g.Sync(), api.OK)
	want(t, "Append", g.Append([]byte("b")), api.OK)
	want(t, "Restart", d.Restart([]int{3}), api.OK)
	g = open(t, d, "log")
	wantLog(t, g, "a")
	want(t, "Append", g.Append([]byte("c")), api.OK)
	want(t, "Set", g.Set(1, recordsOf("d")), api.OK)
	wantLog(t, g, "a", "d")
}

// The rule on memory

func TestArgumentsAreNeitherChangedNorKept(t *testing.T) {
	d := newDisk(t, 200)
	g := open(t, d, "log")
	room := []byte("abc...")
	list := [][]byte{[]byte("one..")[:3], []byte("two"), []byte("spare")}
	g.Append(room[:3])
	g.Set(1, list[:2])
	g.Append(room[:2])
	g.Set(2, list[:1])
	if string(room) != "abc..." || string(list[0][:5]) != "one.." || string(list[1]) != "two" || string(list[2]) != "spare" {
		t.Errorf("an argument was changed: %q %q", room, list)
	}
	copy(room, "xxxxxx")
	copy(list[0][:5], "xxxxx")
	list[0] = nil
	wantLog(t, g, "abc", "one", "one")
	p := []byte(framed("abc", "de") + "tail")
	was := bytes.Clone(p)
	records, _ := wal.Scan(p)
	if !bytes.Equal(p, was) {
		t.Error("Scan has changed its argument")
	}
	clear(p)
	if !slices.Equal(textsOf(records), []string{"abc", "de"}) {
		t.Errorf("what Scan answers shares memory with its argument: %q", records)
	}
}

func overwrite(p []byte) {
	for i := range p[:cap(p)] {
		p[:cap(p)][i] = '!'
	}
}

func TestAnswersAreNewMemory(t *testing.T) {
	d := newDisk(t, 200)
	g := open(t, d, "log")
	g.Append([]byte("abc"))
	g.Set(1, recordsOf("def"))
	first, _ := g.At(0)
	again, _ := g.At(0)
	second, _ := g.At(1)
	overwrite(first)
	overwrite(second)
	if string(again) != "abc" {
		t.Errorf("two answers share memory: %q", again)
	}
	wantLog(t, g, "abc", "def")
	want(t, "Set", g.Set(2, nil), api.OK)
	wantLog(t, open(t, d, "log"), "abc", "def")
	records, _ := wal.Scan([]byte(framed("abc", "de", "f")))
	overwrite(records[0])
	overwrite(records[2])
	if string(records[1]) != "de" {
		t.Errorf("two records of one answer share memory: %q", records)
	}
}

func TestTwoLogsOnOneDisk(t *testing.T) {
	d := newDisk(t, 200)
	a, b := open(t, d, "a"), open(t, d, "b")
	a.Append([]byte("1"))
	b.Append([]byte("2"))
	a.Set(1, recordsOf("3"))
	b.Sync()
	a.Append([]byte("4"))
	d.Restart(nil)
	wantLog(t, open(t, d, "a"), "1", "3")
	wantLog(t, open(t, d, "b"), "2")
}
