package disk_test

import (
	"bytes"
	"fmt"
	"math"
	"slices"
	"strings"
	"testing"

	"fascine/api"
	"fascine/disk"
)

// The signatures that the chapter lists.
var (
	_ func(int) (*disk.Disk, api.Errno)            = disk.New
	_ func(string) bool                            = disk.Name
	_ func(*disk.Disk, string, []byte) api.Errno   = (*disk.Disk).Append
	_ func(*disk.Disk, string, []byte) api.Errno   = (*disk.Disk).Put
	_ func(*disk.Disk, string) api.Errno           = (*disk.Disk).Sync
	_ func(*disk.Disk, string) api.Errno           = (*disk.Disk).Remove
	_ func(*disk.Disk, string, string) api.Errno   = (*disk.Disk).Rename
	_ func(*disk.Disk, string) ([]byte, api.Errno) = (*disk.Disk).Read
	_ func(*disk.Disk) []string                    = (*disk.Disk).Names
	_ func(*disk.Disk, string) int                 = (*disk.Disk).Sure
	_ func(*disk.Disk, int) api.Errno              = (*disk.Disk).Arm
	_ func(*disk.Disk, []int) api.Errno            = (*disk.Disk).Restart
	_ func(*disk.Disk) int                         = (*disk.Disk).Ops
	_ func(*disk.Disk) bool                        = (*disk.Disk).On
	_ func(*disk.Disk) int                         = (*disk.Disk).Used
)

func newDisk(t *testing.T, room int) *disk.Disk {
	t.Helper()
	d, e := disk.New(room)
	if e != api.OK || d == nil {
		t.Fatalf("New(%d) = %v, %d", room, d, e)
	}
	return d
}

func want(t *testing.T, what string, got, e api.Errno) {
	t.Helper()
	if got != e {
		t.Errorf("%s: %d, want %d", what, got, e)
	}
}

func wantFile(t *testing.T, d *disk.Disk, name, data string, sure int) {
	t.Helper()
	p, e := d.Read(name)
	if string(p) != data || e != api.OK || d.Sure(name) != sure {
		t.Errorf("Read(%s) = %q, %d, Sure %d, want %q, %d", name, p, e, d.Sure(name), data, sure)
	}
}

func wantNone(t *testing.T, d *disk.Disk, name string) {
	t.Helper()
	if p, e := d.Read(name); len(p) != 0 || e != api.ErrNone || d.Sure(name) != 0 {
		t.Errorf("Read(%s) = %q, %d, Sure %d", name, p, e, d.Sure(name))
	}
}

func wantNames(t *testing.T, d *disk.Disk, names ...string) {
	t.Helper()
	if got := d.Names(); !slices.Equal(got, names) {
		t.Errorf("Names = %q, want %q", got, names)
	}
}

// told: all that a disk tells and that no call changes by asking.
func told(d *disk.Disk) string {
	var b strings.Builder
	fmt.Fprint(&b, d.Ops(), d.On(), d.Used())
	for _, name := range d.Names() {
		p, e := d.Read(name)
		fmt.Fprintf(&b, " %q %x %d %d", name, p, e, d.Sure(name))
	}
	return b.String()
}

// unchanged: the call answers that error, and nothing that the disk tells has changed.
func unchanged(t *testing.T, d *disk.Disk, what string, e api.Errno, call func() api.Errno) {
	t.Helper()
	before := told(d)
	want(t, what, call(), e)
	if now := told(d); now != before {
		t.Errorf("%s: %s, before it %s", what, now, before)
	}
}

func five(d *disk.Disk, name, to string, p []byte) map[string]func() api.Errno {
	return map[string]func() api.Errno{
		"Append": func() api.Errno { return d.Append(name, p) },
		"Put":    func() api.Errno { return d.Put(name, p) },
		"Sync":   func() api.Errno { return d.Sync(name) },
		"Remove": func() api.Errno { return d.Remove(name) },
		"Rename": func() api.Errno { return d.Rename(name, to) },
	}
}

func read(d *disk.Disk, name string) func() api.Errno {
	return func() api.Errno {
		p, e := d.Read(name)
		if e != api.OK && len(p) != 0 {
			return -1
		}
		return e
	}
}

// P2.1

func TestNew(t *testing.T) {
	for _, room := range []int{0, 1, 10, api.MaxRoom} {
		d := newDisk(t, room)
		if len(d.Names()) != 0 || !d.On() || d.Ops() != 0 || d.Used() != 0 {
			t.Errorf("New(%d): %s", room, told(d))
		}
	}
	for _, room := range []int{-1, api.MaxRoom + 1, math.MinInt, math.MaxInt} {
		if d, e := disk.New(room); d != nil || e != api.ErrArg {
			t.Errorf("New(%d) = %v, %d", room, d, e)
		}
	}
}

func TestName(t *testing.T) {
	full := strings.Repeat("n", api.MaxName)
	for _, s := range []string{"a", "z", "0", "9", ".", "-", "..", "shard-0.new", "raft", full} {
		if !disk.Name(s) {
			t.Errorf("%q should be a name", s)
		}
	}
	for _, s := range []string{"", full + "n", "A", "Z", "a b", "a/b", "a_b", "a\x00", "é", "a\n", "\xff", "`", "{", ":", ","} {
		if disk.Name(s) {
			t.Errorf("%q should be no name", s)
		}
	}
	for b := range 256 {
		is := strings.IndexByte("abcdefghijklmnopqrstuvwxyz0123456789.-", byte(b)) >= 0
		for _, s := range []string{string([]byte{byte(b)}), string([]byte{'a', byte(b)}), string([]byte{byte(b), 'a'})} {
			if disk.Name(s) != is {
				t.Errorf("Name(%q) = %v", s, !is)
			}
		}
	}
}

func TestNoNameGoesAheadOfAll(t *testing.T) {
	on, off := newDisk(t, 4), newDisk(t, 4)
	on.Append("a", []byte("1234"))
	off.Append("a", []byte("123"))
	off.Arm(1)
	off.Append("a", []byte("4"))
	for _, d := range []*disk.Disk{on, off} {
		for _, bad := range []string{"", "A", strings.Repeat("n", api.MaxName+1)} {
			for what, call := range five(d, bad, "b", []byte("xyz")) {
				unchanged(t, d, what+" of no name", api.ErrArg, call)
			}
			unchanged(t, d, "Read of no name", api.ErrArg, read(d, bad))
			unchanged(t, d, "Rename to no name", api.ErrArg, func() api.Errno { return d.Rename("a", bad) })
			unchanged(t, d, "Rename of none to no name", api.ErrArg, func() api.Errno { return d.Rename("b", bad) })
			unchanged(t, d, "Rename of no name to itself", api.ErrArg, func() api.Errno { return d.Rename(bad, bad) })
			if d.Sure(bad) != 0 {
				t.Errorf("Sure(%q) = %d", bad, d.Sure(bad))
			}
		}
	}
}

func TestNameAtItsLimitIsUsed(t *testing.T) {
	d := newDisk(t, 100)
	full := strings.Repeat("-", api.MaxName)
	want(t, "Append", d.Append(full, []byte("x")), api.OK)
	want(t, "Sync", d.Sync(full), api.OK)
	want(t, "Rename", d.Rename(full, strings.Repeat(".", api.MaxName)), api.OK)
	wantNames(t, d, strings.Repeat(".", api.MaxName))
}

// P2.2

func TestAppend(t *testing.T) {
	d := newDisk(t, 10)
	want(t, "Append", d.Append("a", []byte("123")), api.OK)
	want(t, "Append", d.Append("b", nil), api.OK)
	want(t, "Append", d.Append("a", []byte("45")), api.OK)
	wantFile(t, d, "a", "12345", 0)
	wantFile(t, d, "b", "", 0)
	wantNames(t, d, "a", "b")
	if d.Used() != 5 || d.Ops() != 3 {
		t.Errorf("Used = %d, Ops = %d", d.Used(), d.Ops())
	}
}

func TestPut(t *testing.T) {
	d := newDisk(t, 10)
	want(t, "Put", d.Put("a", []byte("123")), api.OK)
	want(t, "Put of nothing", d.Put("b", nil), api.OK)
	wantFile(t, d, "a", "123", 0)
	wantFile(t, d, "b", "", 0)
	unchanged(t, d, "Put again", api.ErrExists, func() api.Errno { return d.Put("a", []byte("x")) })
	unchanged(t, d, "Put again, of nothing", api.ErrExists, func() api.Errno { return d.Put("b", nil) })
	unchanged(t, d, "Put again, too much", api.ErrExists, func() api.Errno { return d.Put("a", make([]byte, 11)) })
	want(t, "Remove", d.Remove("a"), api.OK)
	want(t, "Put behind Remove", d.Put("a", []byte("x")), api.OK)
	wantFile(t, d, "a", "x", 0)
}

func TestRoom(t *testing.T) {
	d := newDisk(t, 10)
	unchanged(t, d, "Append of 11", api.ErrFull, func() api.Errno { return d.Append("a", make([]byte, 11)) })
	unchanged(t, d, "Put of 11", api.ErrFull, func() api.Errno { return d.Put("a", make([]byte, 11)) })
	want(t, "Append", d.Append("a", []byte("123456")), api.OK)
	unchanged(t, d, "Put of 5", api.ErrFull, func() api.Errno { return d.Put("b", make([]byte, 5)) })
	want(t, "Put of 4", d.Put("b", make([]byte, 4)), api.OK)
	unchanged(t, d, "Append of 1", api.ErrFull, func() api.Errno { return d.Append("a", []byte("x")) })
	unchanged(t, d, "Append of 1 to a new one", api.ErrFull, func() api.Errno { return d.Append("c", []byte("x")) })
	want(t, "Append of nothing", d.Append("a", nil), api.OK)
	want(t, "Put of nothing", d.Put("c", nil), api.OK)
	want(t, "Remove", d.Remove("b"), api.OK)
	want(t, "Append of 4", d.Append("c", make([]byte, 4)), api.OK)
	if d.Used() != 10 {
		t.Errorf("Used = %d", d.Used())
	}
	d.Restart(nil)
	if d.Used() != 0 {
		t.Errorf("Used behind a Restart = %d", d.Used())
	}
	want(t, "Append of 10", d.Append("c", make([]byte, 10)), api.OK)
}

func TestRoomAtItsLimits(t *testing.T) {
	none := newDisk(t, 0)
	want(t, "Append of nothing", none.Append("a", nil), api.OK)
	want(t, "Append", none.Append("a", []byte("x")), api.ErrFull)
	most := newDisk(t, api.MaxRoom)
	want(t, "Append of all", most.Append("a", make([]byte, api.MaxRoom)), api.OK)
	want(t, "Append", most.Append("a", []byte("x")), api.ErrFull)
	if most.Used() != api.MaxRoom {
		t.Errorf("Used = %d", most.Used())
	}
}

// P2.3

func TestSync(t *testing.T) {
	d := newDisk(t, 10)
	d.Append("a", []byte("123"))
	d.Append("b", []byte("xy"))
	want(t, "Sync", d.Sync("a"), api.OK)
	wantFile(t, d, "a", "123", 3)
	wantFile(t, d, "b", "xy", 0)
	d.Append("a", []byte("45"))
	wantFile(t, d, "a", "12345", 3)
	want(t, "Sync", d.Sync("a"), api.OK)
	want(t, "Sync again", d.Sync("a"), api.OK)
	wantFile(t, d, "a", "12345", 5)
	unchanged(t, d, "Sync of none", api.ErrNone, func() api.Errno { return d.Sync("c") })
	d.Restart(nil)
	wantFile(t, d, "a", "12345", 5)
	wantFile(t, d, "b", "", 0)
}

func TestRemove(t *testing.T) {
	d := newDisk(t, 10)
	d.Append("a", []byte("123"))
	d.Sync("a")
	d.Append("b", []byte("xy"))
	want(t, "Remove", d.Remove("a"), api.OK)
	wantNone(t, d, "a")
	wantNames(t, d, "b")
	unchanged(t, d, "Remove again", api.ErrNone, func() api.Errno { return d.Remove("a") })
	want(t, "Remove of what isn't durable", d.Remove("b"), api.OK)
	d.Restart([]int{9, 9})
	wantNames(t, d)
	d.Append("a", []byte("z"))
	wantFile(t, d, "a", "z", 0)
}

func TestRename(t *testing.T) {
	d := newDisk(t, 10)
	d.Append("a", []byte("123"))
	d.Append("b", []byte("wxyz"))
	unchanged(t, d, "Rename of what isn't durable", api.ErrState, func() api.Errno { return d.Rename("a", "b") })
	d.Sync("a")
	want(t, "Rename", d.Rename("a", "b"), api.OK)
	wantNone(t, d, "a")
	wantFile(t, d, "b", "123", 3)
	wantNames(t, d, "b")
	if d.Used() != 3 {
		t.Errorf("Used = %d", d.Used())
	}
	want(t, "Rename to a new name", d.Rename("b", "c"), api.OK)
	d.Restart(nil)
	wantNames(t, d, "c")
	wantFile(t, d, "c", "123", 3)
	want(t, "Put", d.Put("e", nil), api.OK)
	want(t, "Rename of an empty file", d.Rename("e", "c"), api.OK)
	wantFile(t, d, "c", "", 0)
	d.Append("c", []byte("1"))
	unchanged(t, d, "Rename of one byte that isn't durable", api.ErrState, func() api.Errno { return d.Rename("c", "d") })
}

func TestRenameRefused(t *testing.T) {
	d := newDisk(t, 10)
	d.Append("a", []byte("123"))
	unchanged(t, d, "Rename of none", api.ErrNone, func() api.Errno { return d.Rename("b", "a") })
	unchanged(t, d, "Rename to itself", api.ErrArg, func() api.Errno { return d.Rename("a", "a") })
	unchanged(t, d, "Rename of none to itself", api.ErrArg, func() api.Errno { return d.Rename("b", "b") })
	d.Arm(1)
	d.Sync("a")
	unchanged(t, d, "Rename to itself, off", api.ErrArg, func() api.Errno { return d.Rename("a", "a") })
	unchanged(t, d, "Rename of none, off", api.ErrCrash, func() api.Errno { return d.Rename("b", "a") })
	unchanged(t, d, "Rename of what isn't durable, off", api.ErrCrash, func() api.Errno { return d.Rename("a", "b") })
}

// P2.4

func TestNamesRise(t *testing.T) {
	d := newDisk(t, 100)
	for _, name := range []string{"b", "a", "-", "ab", "0", ".", "z", "9", "a.new", "a-"} {
		want(t, "Append", d.Append(name, []byte(name)), api.OK)
	}
	wantNames(t, d, "-", ".", "0", "9", "a", "a-", "a.new", "ab", "b", "z")
	d.Arm(1)
	d.Append("c", nil)
	wantNames(t, d, "-", ".", "0", "9", "a", "a-", "a.new", "ab", "b", "c", "z")
}

func TestOpsCountsWhatIsNotRefused(t *testing.T) {
	d := newDisk(t, 10)
	steps := []struct {
		call func() api.Errno
		e    api.Errno
		ops  int
	}{
		{func() api.Errno { return d.Append("a", []byte("1234")) }, api.OK, 1},
		{func() api.Errno { return d.Put("b", []byte("1234")) }, api.OK, 2},
		{func() api.Errno { return d.Sync("a") }, api.OK, 3},
		{func() api.Errno { return d.Rename("a", "c") }, api.OK, 4},
		{func() api.Errno { return d.Remove("c") }, api.OK, 5},
		{func() api.Errno { return d.Append("", nil) }, api.ErrArg, 5},
		{func() api.Errno { return d.Append("a", make([]byte, 7)) }, api.ErrFull, 5},
		{func() api.Errno { return d.Put("b", nil) }, api.ErrExists, 5},
		{func() api.Errno { return d.Sync("c") }, api.ErrNone, 5},
		{func() api.Errno { return d.Rename("b", "a") }, api.ErrState, 5},
		{func() api.Errno { return d.Arm(1) }, api.OK, 5},
		{read(d, "b"), api.OK, 5},
		{func() api.Errno { return d.Sync("b") }, api.ErrCrash, 6},
		{func() api.Errno { return d.Sync("b") }, api.ErrCrash, 6},
		{func() api.Errno { return d.Restart(nil) }, api.OK, 6},
		{func() api.Errno { return d.Sync("b") }, api.OK, 7},
	}
	for i, s := range steps {
		want(t, fmt.Sprint("step ", i), s.call(), s.e)
		if d.Ops() != s.ops {
			t.Errorf("step %d: Ops = %d, want %d", i, d.Ops(), s.ops)
		}
	}
}

// P2.5

func TestPowerGoesOffInTheOperationThatWasArmed(t *testing.T) {
	// What stands there behind the power has gone off in an operation, and a Restart that keeps all.
	cases := map[string]string{
		"Append": `"a" 12xy, "b" z`,
		"Put":    `"a" 12, "b" z, "c" xy`,
		"Sync":   `"a" 12, "b" `,
		"Remove": `"a" 12, "b" z`,
		"Rename": `"a" 12, "b" z`,
	}
	for what, left := range cases {
		d := newDisk(t, 10)
		d.Append("a", []byte("12"))
		d.Sync("a")
		d.Append("b", []byte("z"))
		name, keep := "a", []int{9, 9, 9}
		switch what {
		case "Put":
			name = "c"
		case "Sync":
			name, keep = "b", nil
		}
		sure := d.Sure(name)
		d.Arm(1)
		want(t, what, five(d, name, "b", []byte("xy"))[what](), api.ErrCrash)
		if d.On() || d.Ops() != 4 || d.Sure(name) != sure {
			t.Errorf("%s: On = %v, Ops = %d, Sure = %d", what, d.On(), d.Ops(), d.Sure(name))
		}
		d.Restart(keep)
		var parts []string
		for _, s := range d.Names() {
			p, _ := d.Read(s)
			parts = append(parts, fmt.Sprintf("%q %s", s, p))
		}
		if got := strings.Join(parts, ", "); got != left || !d.On() {
			t.Errorf("%s: %s, want %s", what, got, left)
		}
	}
}

func TestOffAllIsRefused(t *testing.T) {
	for what := range five(nil, "", "", nil) {
		d := newDisk(t, 10)
		d.Append("a", []byte("12"))
		d.Sync("a")
		d.Arm(1)
		want(t, what, five(d, map[bool]string{true: "n", false: "a"}[what == "Put"], "b", []byte("xy"))[what](), api.ErrCrash)
		for _, name := range []string{"a", "b", "n"} {
			for _, p := range [][]byte{nil, []byte("1"), make([]byte, 99)} {
				for then, call := range five(d, name, "to", p) {
					unchanged(t, d, then+", off", api.ErrCrash, call)
				}
			}
			unchanged(t, d, "Read, off", api.ErrCrash, read(d, name))
		}
		d.Restart(nil)
		if !d.On() {
			t.Errorf("%s: off behind a Restart", what)
		}
		wantFile(t, d, "a", "12", 2)
	}
}

func TestArmCounts(t *testing.T) {
	for n := 1; n <= 6; n++ {
		d := newDisk(t, 100)
		d.Append("a", []byte("0"))
		want(t, "Arm", d.Arm(n), api.OK)
		for i := 1; i < n; i++ {
			want(t, "Append ahead of it", d.Append("a", []byte("1")), api.OK)
			// Calls that are refused, and those that are no operations, don't count.
			d.Append("a", make([]byte, 100))
			d.Put("a", nil)
			d.Sync("b")
			d.Remove("b")
			d.Rename("b", "c")
			d.Rename("a", "c")
			d.Append("A", nil)
			d.Read("a")
			d.Names()
		}
		if !d.On() {
			t.Errorf("Arm(%d): off already", n)
		}
		want(t, "Append in it", d.Append("a", []byte("2")), api.ErrCrash)
		if d.On() || d.Ops() != n+1 || d.Used() != n+1 {
			t.Errorf("Arm(%d): On = %v, Ops = %d, Used = %d", n, d.On(), d.Ops(), d.Used())
		}
	}
}

func TestArmAgain(t *testing.T) {
	d := newDisk(t, 100)
	d.Arm(1)
	want(t, "Arm(0)", d.Arm(0), api.OK)
	want(t, "Append", d.Append("a", []byte("1")), api.OK)
	d.Arm(2)
	for _, n := range []int{-1, math.MinInt} {
		want(t, "Arm below 0", d.Arm(n), api.ErrArg)
	}
	want(t, "Append", d.Append("a", []byte("2")), api.OK)
	d.Arm(2)
	want(t, "Append", d.Append("a", []byte("3")), api.OK)
	want(t, "Append", d.Append("a", []byte("4")), api.ErrCrash)
	want(t, "Arm, off", d.Arm(1), api.OK)
	want(t, "Arm below 0, off", d.Arm(-1), api.ErrArg)
	want(t, "Append, off", d.Append("a", []byte("5")), api.ErrCrash)
	d.Restart([]int{9})
	want(t, "Append, nothing armed", d.Append("a", []byte("6")), api.OK)
	wantFile(t, d, "a", "12346", 4)
	d.Arm(1)
	d.Restart(nil)
	want(t, "Append, armed ahead of a Restart", d.Append("a", []byte("7")), api.OK)
	want(t, "Arm", d.Arm(math.MaxInt), api.OK)
	want(t, "Append, armed far off", d.Append("a", []byte("8")), api.OK)
}

func TestRestartKeeps(t *testing.T) {
	for _, c := range []struct {
		keep []int
		a, b string
	}{
		{nil, "12", ""},
		{[]int{}, "12", ""},
		{[]int{0, 0}, "12", ""},
		{[]int{1}, "123", ""},
		{[]int{-1, 2}, "12", "xy"},
		{[]int{3, 3}, "12345", "xyz"},
		{[]int{4, 4, 4}, "12345", "xyz"},
		{[]int{math.MaxInt, math.MinInt}, "12345", ""},
		{[]int{math.MinInt, math.MaxInt}, "12", "xyz"},
	} {
		d := newDisk(t, 10)
		d.Append("b", []byte("xyz"))
		d.Append("a", []byte("12"))
		d.Sync("a")
		d.Append("a", []byte("345"))
		want(t, "Restart", d.Restart(c.keep), api.OK)
		wantFile(t, d, "a", c.a, len(c.a))
		wantFile(t, d, "b", c.b, len(c.b))
		wantNames(t, d, "a", "b")
		if d.Used() != len(c.a)+len(c.b) || d.Ops() != 4 || !d.On() {
			t.Errorf("Restart(%v): Used = %d, Ops = %d, On = %v", c.keep, d.Used(), d.Ops(), d.On())
		}
		unchanged(t, d, "Restart again", api.OK, func() api.Errno { return d.Restart(nil) })
		// What was lost doesn't come back under what is written then.
		d.Append("a", []byte("!"))
		wantFile(t, d, "a", c.a+"!", len(c.a))
	}
}

func TestExample(t *testing.T) {
	d := newDisk(t, 10)
	want(t, "Append", d.Append("a", []byte("12345")), api.OK)
	want(t, "Sync", d.Sync("a"), api.OK)
	want(t, "Append", d.Append("a", []byte("678")), api.OK)
	want(t, "Restart", d.Restart([]int{2}), api.OK)
	wantFile(t, d, "a", "1234567", 7)
	want(t, "Append of 4", d.Append("a", []byte("wxyz")), api.ErrFull)
	want(t, "Arm", d.Arm(1), api.OK)
	want(t, "Append of 1", d.Append("a", []byte("z")), api.ErrCrash)
	want(t, "Read", read(d, "a")(), api.ErrCrash)
	want(t, "Restart", d.Restart([]int{1}), api.OK)
	wantFile(t, d, "a", "1234567z", 8)
}

// P1 and the rules on nil objects and on memory

func TestNilDisk(t *testing.T) {
	var d *disk.Disk
	for _, name := range []string{"a", "", "A"} {
		for what, call := range five(d, name, name, nil) {
			want(t, what+" of a nil disk", call(), api.ErrNone)
		}
		want(t, "Read of a nil disk", read(d, name)(), api.ErrNone)
		if d.Sure(name) != 0 {
			t.Error("Sure of a nil disk")
		}
	}
	for _, n := range []int{-1, 0, 1} {
		want(t, "Arm of a nil disk", d.Arm(n), api.ErrNone)
		want(t, "Restart of a nil disk", d.Restart([]int{n}), api.ErrNone)
	}
	want(t, "Restart of a nil disk", d.Restart(nil), api.ErrNone)
	if len(d.Names()) != 0 || d.Ops() != 0 || d.On() || d.Used() != 0 {
		t.Error("a nil disk tells something")
	}
}

func TestArgumentsAreNeitherChangedNorKept(t *testing.T) {
	d := newDisk(t, 100)
	room := []byte("123....")
	keep := []int{1, -1, 7, 9}
	d.Append("a", room[:3])
	d.Append("a", room[:3])
	d.Put("b", room[:3])
	d.Sync("a")
	d.Restart(keep[:2])
	d.Append("a", room[:1])
	if string(room) != "123...." || !slices.Equal(keep, []int{1, -1, 7, 9}) {
		t.Errorf("an argument was changed: %q %v", room, keep)
	}
	copy(room, "xxxxxxx")
	wantFile(t, d, "a", "1231231", 6)
	wantFile(t, d, "b", "", 0)
	p := []byte("12")
	d.Put("c", p)
	p[0] = 'x'
	wantFile(t, d, "c", "12", 0)
}

func TestAnswersAreNewMemory(t *testing.T) {
	d := newDisk(t, 100)
	d.Append("a", []byte("123"))
	d.Append("b", []byte("456"))
	p, _ := d.Read("a")
	again, _ := d.Read("a")
	names := d.Names()
	for i := range p[:cap(p)] {
		p[:cap(p)][i] = '!'
	}
	for i := range names[:cap(names)] {
		names[:cap(names)][i] = "!"
	}
	d.Append("a", []byte("7"))
	if !bytes.Equal(again, []byte("123")) {
		t.Errorf("two answers share memory: %q", again)
	}
	wantFile(t, d, "a", "1237", 0)
	wantNames(t, d, "a", "b")
}
