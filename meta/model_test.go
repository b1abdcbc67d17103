package meta_test

import (
	"bytes"
	"math/rand"
	"slices"
	"testing"

	"fascine/api"
	"fascine/meta"
	"fascine/pack"
)

// The model: who is in sync is a set, asked node by node.

// has: is a number in a list?
func has(l []int, n int) bool {
	for _, m := range l {
		if m == n {
			return true
		}
	}
	return false
}

// members: the nodes of a set in their order.
func members(set map[int]bool, nodes int) []int {
	var l []int
	for n := range nodes {
		if set[n] {
			l = append(l, n)
		}
	}
	return l
}

func setOf(l []int) map[int]bool {
	set := map[int]bool{}
	for _, n := range l {
		set[n] = true
	}
	return set
}

// modelForm: a list is right if it is what its set makes.
func modelForm(m api.Table) bool {
	right := m.Nodes >= 1 && m.Nodes <= 5 && len(m.Shards) >= 1 && len(m.Shards) <= 8
	for _, r := range m.Shards {
		right = right && r.Term != 0 && has(r.InSync, r.Primary) && slices.Equal(members(setOf(r.InSync), m.Nodes), r.InSync)
	}
	return right
}

func modelApply(m api.Table, c api.Cmd) (api.Table, bool) {
	u := meta.Copy(m)
	if !modelForm(m) || c.Shard < 0 || len(m.Shards) <= c.Shard || c.Node < 0 || m.Nodes <= c.Node {
		return u, false
	}
	r := &u.Shards[c.Shard]
	set := setOf(r.InSync)
	if c.Rev != r.Rev || r.Rev>>60 != 0 || r.Term>>60 != 0 {
		return u, false
	}
	switch {
	case c.Kind == 1 && set[c.Node]:
		r.Term, r.Primary = r.Term+1, c.Node
	case c.Kind == 2 && !set[c.Node]:
		set[c.Node] = true
	case c.Kind == 3 && set[c.Node] && c.Node != r.Primary:
		delete(set, c.Node)
	default:
		return u, false
	}
	r.InSync = members(set, m.Nodes)
	r.Rev++
	return u, true
}

// modelPlan: each node is held against the two that were found so far.
func modelPlan(m api.Table) (int, int, int, bool) {
	if !modelForm(m) {
		return 0, 0, 0, false
	}
	load := map[int]int{}
	for _, r := range m.Shards {
		for n := range m.Nodes {
			if has(r.InSync, n) {
				load[n]++
			}
		}
	}
	from, to := 0, 0
	for n := range m.Nodes {
		if load[n] > load[from] {
			from = n
		}
		if load[n] < load[to] {
			to = n
		}
	}
	if load[from] < load[to]+2 {
		return 0, 0, 0, false
	}
	for s, r := range m.Shards {
		if has(r.InSync, from) && !has(r.InSync, to) {
			return s, from, to, true
		}
	}
	return 0, 0, 0, false
}

func modelNew(nodes, shards, copies int) (api.Table, api.Errno) {
	if nodes < 1 || nodes > 5 || shards < 1 || shards > 8 || copies < 1 || copies > nodes {
		return api.Table{}, api.ErrArg
	}
	m := api.Table{Nodes: nodes}
	for s := range shards {
		set := map[int]bool{}
		for n := s; n < s+copies; n++ {
			set[n%nodes] = true
		}
		m.Shards = append(m.Shards, row(0, 1, s%nodes, members(set, nodes)...))
	}
	return m, api.OK
}

func holdAgainstModel(t *testing.T, m api.Table, c api.Cmd) {
	t.Helper()
	checkForm(t, m, modelForm(m))
	want, done := modelApply(m, c)
	checkApply(t, m, c, want, done)
	s, from, to, ok := modelPlan(m)
	checkPlan(t, m, s, from, to, ok)
}

// someTable: a right one by chance, here and there with a fault.
func someTable(r *rand.Rand) api.Table {
	m := api.Table{Nodes: 1 + r.Intn(5)}
	for range 1 + r.Intn(8) {
		in := r.Perm(m.Nodes)[:1+r.Intn(m.Nodes)]
		primary := in[0]
		slices.Sort(in)
		m.Shards = append(m.Shards, row(uint64(r.Intn(3)), uint64(1+r.Intn(3)), primary, in...))
	}
	bad := &m.Shards[r.Intn(len(m.Shards))]
	switch r.Intn(20) {
	case 0:
		m.Nodes = r.Intn(8) - 1
	case 1:
		m.Shards = append(m.Shards, m.Shards...)
	case 2:
		bad.Primary = r.Intn(8) - 1
	case 3:
		bad.InSync = append(bad.InSync, r.Intn(8)-1)
	case 4:
		bad.InSync[r.Intn(len(bad.InSync))] = r.Intn(8) - 1
	case 5:
		bad.Term = 0
	case 6:
		bad.InSync = nil
	case 7:
		bad.Rev = 1<<60 - 2 + uint64(r.Intn(4))
	case 8:
		bad.Term = 1<<60 - 2 + uint64(r.Intn(4))
	}
	return m
}

// someCmd: a command that may well fit.
func someCmd(r *rand.Rand, m api.Table) api.Cmd {
	c := api.Cmd{Kind: byte(1 + r.Intn(3)), Shard: r.Intn(len(m.Shards)), Node: r.Intn(5), Rev: uint64(r.Intn(3))}
	if r.Intn(4) > 0 {
		c.Rev = m.Shards[c.Shard].Rev
	}
	switch r.Intn(12) {
	case 0:
		c.Kind = byte(r.Intn(6))
	case 1:
		c.Shard = r.Intn(10) - 1
	case 2:
		c.Node = r.Intn(8) - 1
	}
	return c
}

func TestEachNew(t *testing.T) {
	for nodes := -2; nodes <= 8; nodes++ {
		for shards := -2; shards <= 11; shards++ {
			for copies := -2; copies <= 8; copies++ {
				want, e := modelNew(nodes, shards, copies)
				checkNew(t, nodes, shards, copies, want, e)
				checkForm(t, want, e == api.OK)
			}
		}
	}
}

func TestEachSmallRow(t *testing.T) {
	lists := [][]int{nil}
	for from := 0; len(lists[from]) < 4; from++ {
		for n := -1; n <= 3; n++ {
			lists = append(lists, append(slices.Clone(lists[from]), n))
		}
	}
	for _, in := range lists {
		for primary := -1; primary <= 3; primary++ {
			for nodes := 0; nodes <= 4; nodes++ {
				m := table(nodes, row(2, 1, primary, in...))
				checkForm(t, m, modelForm(m))
				if len(in) > 3 {
					continue
				}
				for kind := range byte(5) {
					for n := -1; n <= 4; n++ {
						c := api.Cmd{Kind: kind, Node: n, Rev: 2}
						want, done := modelApply(m, c)
						checkApply(t, m, c, want, done)
					}
				}
			}
		}
	}
}

func TestByChance(t *testing.T) {
	r := rand.New(rand.NewSource(14))
	right, done, plans := 0, 0, 0
	const many = 60000
	for range many {
		m := someTable(r)
		c := someCmd(r, m)
		holdAgainstModel(t, m, c)
		if modelForm(m) {
			right++
		}
		if _, ok := modelApply(m, c); ok {
			done++
		}
		if _, _, _, ok := modelPlan(m); ok {
			plans++
		}
	}
	for _, n := range []int{right, many - right, done, many - done, plans, many - plans} {
		if n < many/20 {
			t.Errorf("of %d right %d, done %d, plans %d", many, right, done, plans)
		}
	}
}

func TestRowsOfCommands(t *testing.T) {
	// One table through many commands: it stays right, and Rev tells how many were done.
	r := rand.New(rand.NewSource(15))
	for range 200 {
		m, _ := meta.New(1+r.Intn(5), 1+r.Intn(8), 1)
		done := uint64(0)
		for range 200 {
			c := someCmd(r, m)
			want, ok := modelApply(m, c)
			checkApply(t, m, c, want, ok)
			m, _ = meta.Apply(m, c)
			if ok {
				done++
			}
		}
		sum := uint64(0)
		for _, s := range m.Shards {
			sum += s.Rev
		}
		if !meta.Form(m) || sum != done {
			t.Fatalf("behind %d commands: %v", done, m)
		}
	}
}

func TestEachPlan(t *testing.T) {
	// Each table of three nodes and up to three rows.
	sets := [][]int{{0}, {1}, {2}, {0, 1}, {0, 2}, {1, 2}, {0, 1, 2}}
	tables := []api.Table{table(3)}
	for from := 0; len(tables[from].Shards) < 4; from++ {
		m := tables[from]
		s, f, o, ok := modelPlan(m)
		checkPlan(t, m, s, f, o, ok)
		for _, in := range sets {
			u := meta.Copy(m)
			u.Shards = append(u.Shards, row(0, 1, in[0], in...))
			tables = append(tables, u)
		}
	}
}

// modelDecode: of all commands the one that has these bytes.
func modelDecode(p []byte) (api.Cmd, api.Errno) {
	if len(p) < 4 {
		return api.Cmd{}, api.ErrForm
	}
	rev, _, _ := pack.ReadUvarint(p, 3)
	for kind := byte(1); kind <= 3; kind++ {
		for shard := range 8 {
			for node := range 5 {
				c := api.Cmd{Kind: kind, Shard: shard, Node: node, Rev: rev}
				if bytes.Equal(append([]byte{kind, byte(shard), byte(node)}, pack.Uvarint(rev)...), p) {
					return c, api.OK
				}
			}
		}
	}
	return api.Cmd{}, api.ErrForm
}

func TestEachHead(t *testing.T) {
	few := []int{0, 1, 2, 3, 4, 5, 6, 7, 8, 9, 127, 128, 255}
	for _, kind := range few {
		for _, shard := range few {
			for _, node := range few {
				head := []byte{byte(kind), byte(shard), byte(node)}
				for _, tail := range [][]byte{nil, {0}, {1}, {0x7f}, {0x80}, {0x80, 1}, {0x80, 0}, {0, 0}} {
					p := slices.Concat(head, tail)
					c, e := modelDecode(p)
					checkDecode(t, p, c, e)
					if e == api.OK {
						checkEncode(t, c, p...)
					}
				}
			}
		}
	}
	for kind := -1; kind <= 5; kind++ {
		for shard := -3; shard <= 10; shard++ {
			for node := -3; node <= 7; node++ {
				c := api.Cmd{Kind: byte(kind), Shard: shard, Node: node, Rev: 5}
				want := kind >= 1 && kind <= 3 && shard >= 0 && shard < 8 && node >= 0 && node < 5
				if p, e := meta.Encode(c); want != (e == api.OK) || !want && (e != api.ErrForm || len(p) > 0) {
					t.Errorf("Encode(%v) = %x, %d", c, p, e)
				}
			}
		}
	}
}

func TestBytesByChance(t *testing.T) {
	r := rand.New(rand.NewSource(16))
	for range 20000 {
		c := api.Cmd{Kind: byte(1 + r.Intn(3)), Shard: r.Intn(8), Node: r.Intn(5), Rev: r.Uint64() >> r.Intn(64)}
		p, e := meta.Encode(c)
		if e != api.OK {
			t.Fatalf("Encode(%v): %d", c, e)
		}
		checkDecode(t, p, c, api.OK)
		for n := range len(p) {
			checkDecode(t, p[:n], api.Cmd{}, api.ErrForm)
		}
		checkDecode(t, append(slices.Clone(p), byte(r.Intn(256))), api.Cmd{}, api.ErrForm)
		p[r.Intn(len(p))] = byte(r.Intn(256))
		want, e := modelDecode(p)
		checkDecode(t, p, want, e)
	}
}
