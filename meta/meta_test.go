package meta_test

import (
	"bytes"
	"math"
	"slices"
	"testing"

	"fascine/api"
	"fascine/meta"
	"fascine/pack"
)

// The signatures that the chapter lists.
var (
	_ func(nodes, shards, copies int) (api.Table, api.Errno) = meta.New
	_ func(api.Table) bool                                   = meta.Form
	_ func(api.Table) api.Table                              = meta.Copy
	_ func(api.Table, api.Cmd) (api.Table, bool)             = meta.Apply
	_ func(api.Cmd) ([]byte, api.Errno)                      = meta.Encode
	_ func([]byte) (api.Cmd, api.Errno)                      = meta.Decode
	_ func(api.Table) (int, int, int, bool)                  = meta.Plan
)

// row: a row of a table.
func row(rev, term uint64, primary int, in ...int) api.Shard {
	return api.Shard{Rev: rev, Term: term, Primary: primary, InSync: in}
}

// table: a table of so many nodes.
func table(nodes int, rows ...api.Shard) api.Table {
	return api.Table{Nodes: nodes, Shards: rows}
}

// rows: so many rows, each alike.
func rows(many int, primary int, in ...int) []api.Shard {
	var l []api.Shard
	for range many {
		l = append(l, row(0, 1, primary, slices.Clone(in)...))
	}
	return l
}

func sameRow(a, b api.Shard) bool {
	return a.Rev == b.Rev && a.Term == b.Term && a.Primary == b.Primary && slices.Equal(a.InSync, b.InSync)
}

func same(a, b api.Table) bool {
	return a.Nodes == b.Nodes && slices.EqualFunc(a.Shards, b.Shards, sameRow)
}

func checkNew(t *testing.T, nodes, shards, copies int, want api.Table, e api.Errno) {
	t.Helper()
	if got, gotE := meta.New(nodes, shards, copies); !same(got, want) || gotE != e {
		t.Errorf("New(%d, %d, %d) = %v, %d, want %v, %d", nodes, shards, copies, got, gotE, want, e)
	}
}

func checkForm(t *testing.T, m api.Table, want bool) {
	t.Helper()
	if got := meta.Form(m); got != want {
		t.Errorf("Form(%v) = %v", m, got)
	}
}

// checkApply: also that the table that is handed in stays.
func checkApply(t *testing.T, m api.Table, c api.Cmd, want api.Table, done bool) {
	t.Helper()
	ahead := meta.Copy(m)
	if got, gotDone := meta.Apply(m, c); !same(got, want) || gotDone != done {
		t.Errorf("Apply(%v, %v) = %v, %v, want %v, %v", ahead, c, got, gotDone, want, done)
	}
	if !same(m, ahead) {
		t.Errorf("Apply(%v, %v) has made %v of it", ahead, c, m)
	}
}

func checkNotDone(t *testing.T, m api.Table, c api.Cmd) {
	t.Helper()
	checkApply(t, m, c, m, false)
}

// checkEncode: also that Decode reads it.
func checkEncode(t *testing.T, c api.Cmd, want ...byte) {
	t.Helper()
	if p, e := meta.Encode(c); !bytes.Equal(p, want) || e != api.OK {
		t.Errorf("Encode(%v) = %x, %d, want %x", c, p, e, want)
	}
	checkDecode(t, want, c, api.OK)
}

func checkDecode(t *testing.T, p []byte, want api.Cmd, e api.Errno) {
	t.Helper()
	if c, gotE := meta.Decode(p); c != want || gotE != e {
		t.Errorf("Decode(%x) = %v, %d, want %v, %d", p, c, gotE, want, e)
	}
}

func checkPlan(t *testing.T, m api.Table, shard, from, to int, is bool) {
	t.Helper()
	ahead := meta.Copy(m)
	s, f, o, ok := meta.Plan(m)
	if s != shard || f != from || o != to || ok != is {
		t.Errorf("Plan(%v) = %d, %d, %d, %v, want %d, %d, %d, %v", m, s, f, o, ok, shard, from, to, is)
	}
	if !same(m, ahead) {
		t.Errorf("Plan(%v) has made %v of it", ahead, m)
	}
}

// P14.1

func TestNew(t *testing.T) {
	checkNew(t, 3, 2, 2, table(3, row(0, 1, 0, 0, 1), row(0, 1, 1, 1, 2)), api.OK)
	checkNew(t, 1, 1, 1, table(1, row(0, 1, 0, 0)), api.OK)
	checkNew(t, 1, 2, 1, table(1, row(0, 1, 0, 0), row(0, 1, 0, 0)), api.OK)
	// Behind the last node comes the first one again; the numbers rise all the same.
	checkNew(t, 3, 4, 2, table(3, row(0, 1, 0, 0, 1), row(0, 1, 1, 1, 2), row(0, 1, 2, 0, 2), row(0, 1, 0, 0, 1)), api.OK)
	checkNew(t, 3, 3, 3, table(3, row(0, 1, 0, 0, 1, 2), row(0, 1, 1, 0, 1, 2), row(0, 1, 2, 0, 1, 2)), api.OK)
	checkNew(t, 5, 8, 3, table(5,
		row(0, 1, 0, 0, 1, 2), row(0, 1, 1, 1, 2, 3), row(0, 1, 2, 2, 3, 4), row(0, 1, 3, 0, 3, 4),
		row(0, 1, 4, 0, 1, 4), row(0, 1, 0, 0, 1, 2), row(0, 1, 1, 1, 2, 3), row(0, 1, 2, 2, 3, 4)), api.OK)
}

func TestNewRefuses(t *testing.T) {
	far := []int{math.MinInt, -1, 0, 100, math.MaxInt}
	for _, n := range append(far, api.MaxNodes+1) {
		checkNew(t, n, 1, 1, api.Table{}, api.ErrArg)
	}
	for _, n := range append(far, api.MaxShards+1) {
		checkNew(t, 3, n, 1, api.Table{}, api.ErrArg)
	}
	for nodes := 1; nodes <= api.MaxNodes; nodes++ {
		for _, n := range append(far, nodes+1) {
			checkNew(t, nodes, 1, n, api.Table{}, api.ErrArg)
		}
	}
	checkNew(t, math.MinInt, math.MaxInt, 0, api.Table{}, api.ErrArg)
}

func TestForm(t *testing.T) {
	good := row(0, 1, 0, 0)
	checkForm(t, table(1, good), true)
	checkForm(t, table(5, rows(8, 4, 0, 1, 2, 3, 4)...), true)
	checkForm(t, table(5, row(math.MaxUint64, math.MaxUint64, 2, 1, 2, 4)), true)
	for _, nodes := range []int{math.MinInt, -1, 0, 6, math.MaxInt} {
		checkForm(t, table(nodes, good), false)
	}
	checkForm(t, table(1), false)
	checkForm(t, api.Table{}, false)
	checkForm(t, table(1, rows(8, 0, 0)...), true)
	checkForm(t, table(1, rows(9, 0, 0)...), false)
	for _, bad := range []api.Shard{
		row(0, 0, 0, 0), row(7, 0, 0, 0, 1, 2), row(0, 1, 0), row(0, 1, -1, -1), row(0, 1, 0, -1, 0), row(0, 1, 0, 0, 3), row(0, 1, 3, 3), row(0, 1, 3, 0, 3),
		row(0, 1, 1, 0, 2), row(0, 1, -1, 0), row(0, 1, 3, 0, 1, 2), row(0, 1, 0, 0, 0), row(0, 1, 0, 1, 0), row(0, 1, 2, 0, 2, 1), row(0, 1, 2, 0, 1, 1, 2),
		row(0, 1, 0, 0, math.MaxInt), row(0, 1, 0, math.MinInt, 0), row(0, 1, math.MinInt, 0), {},
	} {
		checkForm(t, table(3, bad), false)
		// One row is enough, wherever it stands.
		checkForm(t, table(3, bad, good), false)
		checkForm(t, table(3, good, good, bad), false)
	}
}

func TestCopy(t *testing.T) {
	for _, m := range []api.Table{
		{}, table(-4), table(3, row(7, 9, 1, 0, 1), row(1, 2, 2, 2)), table(99, row(0, 0, -8, 5, 5, -1), api.Shard{}, row(1, 0, 0)),
		table(0, rows(20, 3, 9, 8, 7)...), table(2, row(math.MaxUint64, math.MaxUint64, math.MinInt, math.MaxInt)),
	} {
		if got := meta.Copy(m); !same(got, m) {
			t.Errorf("Copy(%v) = %v", m, got)
		}
	}
}

// P14.2

func TestApplyOfTheChapter(t *testing.T) {
	m, _ := meta.New(3, 2, 2)
	c := api.Cmd{Kind: api.Promote, Shard: 0, Node: 1, Rev: 0}
	behind := table(3, row(1, 2, 1, 0, 1), row(0, 1, 1, 1, 2))
	checkApply(t, m, c, behind, true)
	checkNotDone(t, behind, c)
}

func TestPromote(t *testing.T) {
	m := table(4, row(5, 3, 0, 0, 1), row(6, 9, 2, 0, 2, 3))
	c := api.Cmd{Kind: api.Promote, Shard: 1, Rev: 6}
	for _, n := range []int{0, 3} {
		c.Node = n
		checkApply(t, m, c, table(4, row(5, 3, 0, 0, 1), row(7, 10, n, 0, 2, 3)), true)
	}
	// Also the one that is the first already.
	c.Node = 2
	checkApply(t, m, c, table(4, row(5, 3, 0, 0, 1), row(7, 10, 2, 0, 2, 3)), true)
	c.Node = 1
	checkNotDone(t, m, c)
}

func TestAdd(t *testing.T) {
	m := table(5, row(0, 1, 0, 0), row(6, 9, 2, 1, 2, 4))
	c := api.Cmd{Kind: api.Add, Shard: 1, Rev: 6}
	c.Node = 0
	checkApply(t, m, c, table(5, row(0, 1, 0, 0), row(7, 9, 2, 0, 1, 2, 4)), true)
	c.Node = 3
	checkApply(t, m, c, table(5, row(0, 1, 0, 0), row(7, 9, 2, 1, 2, 3, 4)), true)
	for _, n := range []int{1, 2, 4} {
		c.Node = n
		checkNotDone(t, m, c)
	}
	checkApply(t, m, api.Cmd{Kind: api.Add, Node: 4}, table(5, row(1, 1, 0, 0, 4), row(6, 9, 2, 1, 2, 4)), true)
}

func TestRemove(t *testing.T) {
	m := table(5, row(0, 1, 0, 0), row(6, 9, 2, 1, 2, 4))
	c := api.Cmd{Kind: api.Remove, Shard: 1, Rev: 6}
	c.Node = 1
	checkApply(t, m, c, table(5, row(0, 1, 0, 0), row(7, 9, 2, 2, 4)), true)
	c.Node = 4
	checkApply(t, m, c, table(5, row(0, 1, 0, 0), row(7, 9, 2, 1, 2)), true)
	for _, n := range []int{0, 2, 3} {
		c.Node = n
		checkNotDone(t, m, c)
	}
	checkNotDone(t, m, api.Cmd{Kind: api.Remove})
}

func TestOnlyWhatThereIs(t *testing.T) {
	m := table(3, row(0, 1, 0, 0, 1), row(0, 1, 0, 0, 1))
	for _, kind := range []byte{api.Promote, api.Add, api.Remove} {
		for _, n := range []int{math.MinInt, -1, 3, 4, math.MaxInt} {
			checkNotDone(t, m, api.Cmd{Kind: kind, Shard: 0, Node: n})
		}
		for _, s := range []int{math.MinInt, -1, 2, 7, math.MaxInt} {
			for n := range 3 {
				checkNotDone(t, m, api.Cmd{Kind: kind, Shard: s, Node: n})
			}
		}
	}
	for _, kind := range []byte{0, 4, 5, 128, 255} {
		for n := range 3 {
			checkNotDone(t, m, api.Cmd{Kind: kind, Node: n})
		}
	}
}

// eachDone: a command of each kind that may be done on a table of one row, and what it makes of it.
func eachDone(rev, term uint64) (api.Table, []api.Cmd, []api.Table) {
	return table(3, row(rev, term, 0, 0, 1)),
		[]api.Cmd{{Kind: api.Promote, Node: 1, Rev: rev}, {Kind: api.Add, Node: 2, Rev: rev}, {Kind: api.Remove, Node: 1, Rev: rev}},
		[]api.Table{table(3, row(rev+1, term+1, 1, 0, 1)), table(3, row(rev+1, term, 0, 0, 1, 2)), table(3, row(rev+1, term, 0, 0))}
}

func TestOnlyOfItsRev(t *testing.T) {
	for _, rev := range []uint64{0, 1, 7, 1 << 32} {
		m, l, behind := eachDone(rev, 4)
		for i, c := range l {
			checkApply(t, m, c, behind[i], true)
			checkNotDone(t, behind[i], c)
			for _, other := range []uint64{rev - 1, rev + 1, rev ^ 1<<32, math.MaxUint64 - 1} {
				c.Rev = other
				checkNotDone(t, m, c)
			}
		}
	}
}

func TestCountsThatHaveComeFar(t *testing.T) {
	const bound = 1 << 60
	for _, n := range [][2]uint64{{bound - 1, 1}, {0, bound - 1}, {bound - 1, bound - 1}} {
		m, l, behind := eachDone(n[0], n[1])
		for i, c := range l {
			checkApply(t, m, c, behind[i], true)
		}
	}
	for _, n := range [][2]uint64{{bound, 1}, {0, bound}, {bound - 1, bound}, {bound, bound - 1}, {bound + 1, 1}, {math.MaxUint64, 1}, {0, math.MaxUint64}} {
		m, l, _ := eachDone(n[0], n[1])
		for _, c := range l {
			checkNotDone(t, m, c)
		}
	}
}

func TestOnATableThatIsNotRight(t *testing.T) {
	good := row(0, 1, 0, 0, 1)
	for _, m := range []api.Table{
		{}, table(3), table(0, good), table(6, good), table(3, rows(9, 0, 0, 1)...),
		table(3, good, row(0, 0, 0, 0)), table(3, good, row(0, 1, 0)), table(3, good, row(0, 1, 2, 0, 1)), table(3, good, row(0, 1, 0, 1, 0)), table(3, good, row(0, 1, 0, 0, 3)),
	} {
		for _, kind := range []byte{api.Promote, api.Add, api.Remove} {
			for n := range 3 {
				checkNotDone(t, m, api.Cmd{Kind: kind, Node: n})
			}
		}
	}
}

// P14.3

func TestEncode(t *testing.T) {
	checkEncode(t, api.Cmd{Kind: api.Promote, Node: 1}, 1, 0, 1, 0)
	checkEncode(t, api.Cmd{Kind: api.Add, Shard: 7, Node: 4, Rev: 127}, 2, 7, 4, 0x7f)
	checkEncode(t, api.Cmd{Kind: api.Remove, Shard: 3, Node: 2, Rev: 300}, 3, 3, 2, 0xac, 2)
	for _, rev := range []uint64{1, 128, 1 << 14, 1<<60 - 1, 1 << 60, 1 << 63, math.MaxUint64} {
		checkEncode(t, api.Cmd{Kind: api.Add, Shard: 1, Rev: rev}, append([]byte{2, 1, 0}, pack.Uvarint(rev)...)...)
	}
}

func TestEncodeRefuses(t *testing.T) {
	for _, c := range []api.Cmd{
		{}, {Kind: 4}, {Kind: 255}, {Kind: 0, Shard: 1, Node: 1, Rev: 1},
		{Kind: 1, Shard: -1}, {Kind: 2, Shard: 8}, {Kind: 3, Shard: 256}, {Kind: 1, Shard: math.MinInt}, {Kind: 1, Shard: math.MaxInt},
		{Kind: 1, Node: -1}, {Kind: 2, Node: 5}, {Kind: 3, Node: 256}, {Kind: 1, Node: math.MinInt}, {Kind: 1, Node: math.MaxInt},
		{Kind: 9, Shard: 9, Node: 9, Rev: math.MaxUint64},
	} {
		if p, e := meta.Encode(c); len(p) != 0 || e != api.ErrForm {
			t.Errorf("Encode(%v) = %x, %d", c, p, e)
		}
	}
}

func TestDecodeRefuses(t *testing.T) {
	for _, p := range [][]byte{
		nil, {}, {1}, {1, 0}, {1, 0, 0}, {1, 0, 0, 0x80}, {1, 0, 0, 0x80, 0}, {1, 0, 0, 0, 0}, {1, 0, 0, 1, 1},
		{0, 0, 0, 0}, {4, 0, 0, 0}, {255, 0, 0, 0}, {1, 8, 0, 0}, {1, 255, 0, 0}, {1, 0, 5, 0}, {1, 0, 255, 0},
		{1, 0, 0, 0xff, 0xff, 0xff, 0xff, 0xff, 0xff, 0xff, 0xff, 0xff, 2}, {1, 0, 0, 0xff, 0xff, 0xff, 0xff, 0xff, 0xff, 0xff, 0xff, 0xff, 0x81, 0},
		bytes.Repeat([]byte{1}, 1<<16),
	} {
		checkDecode(t, p, api.Cmd{}, api.ErrForm)
	}
}

// P14.4

func TestPlan(t *testing.T) {
	checkPlan(t, table(2, rows(2, 0, 0)...), 0, 0, 1, true)
	checkPlan(t, table(2, rows(2, 1, 1)...), 0, 1, 0, true)
	// The first of the nodes with most, the first of those with least, the first row that fits.
	checkPlan(t, table(5, row(0, 1, 3, 3), row(0, 1, 1, 1), row(0, 1, 3, 1, 3)), 1, 1, 0, true)
	checkPlan(t, table(4, row(0, 1, 0, 0, 3), row(0, 1, 1, 0, 1, 3), row(0, 1, 0, 0, 1)), 0, 0, 2, true)
	// The first row has both nodes, the second one only that which has least.
	checkPlan(t, table(3, row(0, 1, 0, 0, 1, 2), row(0, 1, 2, 1, 2), row(0, 1, 0, 0, 2), row(0, 1, 0, 0, 2), row(0, 1, 2, 2)), 2, 2, 1, true)
	// Also where it is the first copy that is to move, and whatever Rev and Term are.
	checkPlan(t, table(2, row(math.MaxUint64, math.MaxUint64, 0, 0), row(0, 1, 0, 0)), 0, 0, 1, true)
	checkPlan(t, table(5, rows(8, 4, 4)...), 0, 4, 0, true)
}

func TestPlanWhereThereIsNone(t *testing.T) {
	checkPlan(t, api.Table{}, 0, 0, 0, false)
	checkPlan(t, table(1, rows(8, 0, 0)...), 0, 0, 0, false)
	checkPlan(t, table(2, rows(1, 0, 0)...), 0, 0, 0, false)
	checkPlan(t, table(3, row(0, 1, 0, 0, 1), row(0, 1, 1, 1, 2)), 0, 0, 0, false)
	checkPlan(t, table(5, rows(8, 2, 0, 1, 2, 3, 4)...), 0, 0, 0, false)
	for _, m := range []api.Table{
		table(2), table(0, rows(2, 0, 0)...), table(6, rows(2, 0, 0)...), table(2, rows(9, 0, 0)...), table(2, row(0, 0, 0, 0), row(0, 1, 0, 0)),
		table(2, row(0, 1, 1, 0), row(0, 1, 0, 0)), table(2, row(0, 1, 0, 0, 2), row(0, 1, 0, 0)), table(2, row(0, 1, 0, 0), row(0, 1, 0, 0, 0)), table(2, row(0, 1, 0, 0), row(0, 1, 0, 0), row(0, 1, 0)),
	} {
		checkPlan(t, m, 0, 0, 0, false)
	}
}

func TestPlansComeToAnEnd(t *testing.T) {
	m := table(5, rows(8, 0, 0, 1)...)
	for moves := 0; ; moves++ {
		s, from, to, ok := meta.Plan(m)
		if !ok {
			break
		}
		if moves > 16 {
			t.Fatalf("no end: %v", m)
		}
		for _, c := range []api.Cmd{{Kind: api.Add, Node: to}, {Kind: api.Promote, Node: to}, {Kind: api.Remove, Node: from}} {
			c.Shard, c.Rev = s, m.Shards[s].Rev
			if m, ok = meta.Apply(m, c); !ok {
				t.Fatalf("%v isn't done: %v", c, m)
			}
		}
	}
	many := make([]int, m.Nodes)
	for _, r := range m.Shards {
		for _, n := range r.InSync {
			many[n]++
		}
	}
	if slices.Max(many)-slices.Min(many) > 1 {
		t.Errorf("the loads are %v", many)
	}
}

// Memory

// spoil: writes over all that a table has, spare room too.
func spoil(m api.Table) {
	for i := range m.Shards[:cap(m.Shards)] {
		r := &m.Shards[:cap(m.Shards)][i]
		for j := range r.InSync[:cap(r.InSync)] {
			r.InSync[:cap(r.InSync)][j] = -77
		}
		*r = row(77, 77, -77, -77)
	}
}

func TestAnswersAreNewMemory(t *testing.T) {
	for _, c := range []api.Cmd{{Kind: api.Promote, Node: 1}, {Kind: api.Add, Node: 2}, {Kind: api.Remove, Node: 1}, {Kind: api.Remove}, {}, {Kind: api.Add, Shard: 9}} {
		// One list stands in both rows, with spare room.
		in := make([]int, 2, 9)
		in[1] = 1
		l := []api.Shard{row(0, 1, 0, in...), row(0, 1, 1, in...), row(9, 9, 9, 9)}[:2]
		m := table(3, l...)
		ahead := meta.Copy(m)
		one, _ := meta.Apply(m, c)
		two, _ := meta.Apply(m, c)
		kept := meta.Copy(two)
		spoil(one)
		if !same(m, ahead) || !same(two, kept) || !sameRow(l[:3][2], row(9, 9, 9, 9)) || !slices.Equal(in[:9], []int{0, 1, 0, 0, 0, 0, 0, 0, 0}) {
			t.Errorf("Apply(%v, %v) shares memory", ahead, c)
		}
		// The rows of an answer share none.
		two.Shards[0].InSync = append(two.Shards[0].InSync, -5, -6, -7, -8)
		for i := range two.Shards[0].InSync {
			two.Shards[0].InSync[i] = -9
		}
		if !sameRow(two.Shards[1], kept.Shards[1]) {
			t.Errorf("two rows of Apply(%v, %v) share memory", ahead, c)
		}
		three := meta.Copy(m)
		spoil(three)
		if !same(m, ahead) {
			t.Errorf("Copy(%v) shares memory", ahead)
		}
	}
	one, _ := meta.New(3, 3, 3)
	two, _ := meta.New(3, 3, 3)
	spoil(one)
	checkNew(t, 3, 3, 3, two, api.OK)
	p, _ := meta.Encode(api.Cmd{Kind: 1, Rev: 300})
	for i := range p[:cap(p)] {
		p[:cap(p)][i] = 0xff
	}
	checkEncode(t, api.Cmd{Kind: 1, Rev: 300}, 1, 0, 0, 0xac, 2)
}

func TestBytesHandedInStay(t *testing.T) {
	p := []byte{2, 7, 4, 0xac, 2, 0xaa}
	checkDecode(t, p[:5], api.Cmd{Kind: api.Add, Shard: 7, Node: 4, Rev: 300}, api.OK)
	checkDecode(t, p[:4], api.Cmd{}, api.ErrForm)
	if !bytes.Equal(p, []byte{2, 7, 4, 0xac, 2, 0xaa}) {
		t.Errorf("the bytes are %x", p)
	}
}
