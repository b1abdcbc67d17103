package raft_test

import (
	"bytes"
	"fmt"
	"math"
	"math/rand"
	"slices"
	"testing"

	"fascine/api"
	"fascine/disk"
	"fascine/pack"
	"fascine/raft"
	"fascine/wal"
)

// The signatures that the chapter lists.
var (
	_ func(*disk.Disk, int, int) (*raft.Node, api.Errno)          = raft.Open
	_ func(*raft.Node, uint64) api.Errno                          = (*raft.Node).Tick
	_ func(*raft.Node, []byte) api.Errno                          = (*raft.Node).Propose
	_ func(*raft.Node, int, []byte) api.Errno                     = (*raft.Node).Step
	_ func(*raft.Node) []api.Packet                               = (*raft.Node).Out
	_ func(*raft.Node) uint64                                     = (*raft.Node).Term
	_ func(*raft.Node) int                                        = (*raft.Node).Leader
	_ func(*raft.Node) bool                                       = (*raft.Node).Leads
	_ func(*raft.Node) int                                        = (*raft.Node).Len
	_ func(*raft.Node) int                                        = (*raft.Node).Sure
	_ func(n *raft.Node, i int) (d []byte, t uint64, e api.Errno) = (*raft.Node).Entry
)

const _ string = raft.File

func newDisk(t *testing.T, room int) *disk.Disk {
	t.Helper()
	d, e := disk.New(room)
	if e != api.OK {
		t.Fatalf("disk.New(%d): %d", room, e)
	}
	return d
}

func mustOpen(t *testing.T, d *disk.Disk, me, nodes int) *raft.Node {
	t.Helper()
	n, e := raft.Open(d, me, nodes)
	if n == nil || e != api.OK {
		t.Fatalf("Open(%d, %d): %d", me, nodes, e)
	}
	return n
}

func checkOpen(t *testing.T, d *disk.Disk, me, nodes int, want api.Errno) {
	t.Helper()
	n, e := raft.Open(d, me, nodes)
	if e != want || (n != nil) != (e == api.OK) {
		t.Errorf("Open(%d, %d) = %v, %d, want %d", me, nodes, n != nil, e, want)
	}
}

// alone: a node alone that leads.
func alone(t *testing.T, d *disk.Disk) *raft.Node {
	t.Helper()
	n := mustOpen(t, d, 0, 1)
	for range 20 {
		if e := n.Tick(0); e != api.OK {
			t.Fatalf("Tick: %d", e)
		}
	}
	if !n.Leads() {
		t.Fatal("doesn't lead behind 20 ticks")
	}
	return n
}

// calm: a world whose node number 0 leads, and all know it.
func calm(t *testing.T, nodes int) *world {
	t.Helper()
	w := newWorld(t, nodes, 1<<20, 1)
	for range 20 {
		w.round([]uint64{0, 9, 8, 7, 6}, allOf(nodes))
	}
	if at := w.leaderOf(allOf(nodes)); at != 0 {
		t.Fatalf("node %d leads", at)
	}
	return w
}

// state is all that a node tells.
type state struct {
	term   uint64
	leader int
	leads  bool
	sure   int
	log    string
}

func stateOf(n *raft.Node) state {
	return state{n.Term(), n.Leader(), n.Leads(), n.Sure(), fmt.Sprint(entries(n))}
}

// Example 1.
func TestExample(t *testing.T) {
	n := alone(t, newDisk(t, 4096))
	if e := n.Propose([]byte("a")); e != api.OK || n.Sure() != n.Len() {
		t.Errorf("Propose: %d, %d of %d are sure", e, n.Sure(), n.Len())
	}
	if p, term, e := n.Entry(n.Len()); string(p) != "a" || term != n.Term() || e != api.OK {
		t.Errorf("Entry = %q, %d, %d", p, term, e)
	}
}

// P15.1
func TestOpenRefuses(t *testing.T) {
	for _, nodes := range []int{math.MinInt, -1, 0, api.MaxNodes + 1, math.MaxInt} {
		checkOpen(t, newDisk(t, 4096), 0, nodes, api.ErrArg)
		checkOpen(t, nil, 0, nodes, api.ErrArg)
	}
	for nodes := 1; nodes <= api.MaxNodes; nodes++ {
		for me := -2; me < nodes+2; me++ {
			want := api.OK
			if me < 0 || me >= nodes {
				want = api.ErrArg
			}
			checkOpen(t, newDisk(t, 4096), me, nodes, want)
		}
	}
	checkOpen(t, newDisk(t, 4096), math.MinInt, 3, api.ErrArg)
	checkOpen(t, newDisk(t, 4096), math.MaxInt, 3, api.ErrArg)
	checkOpen(t, nil, 0, 1, api.ErrNone)

	d := newDisk(t, 4096)
	d.Arm(1)
	d.Append("x", []byte("x"))
	checkOpen(t, d, 0, 1, api.ErrCrash)
	checkOpen(t, d, 2, 1, api.ErrArg)
}

// P15.1: where the log's file has no room to be cut.
func TestOpenFull(t *testing.T) {
	d := newDisk(t, 4096)
	alone(t, d)
	d.Append(raft.File, []byte{0xf1})
	rest := 4096 - d.Used()
	d.Append("x", make([]byte, rest))
	checkOpen(t, d, 0, 1, api.ErrFull)
}

// P15.1
func TestOpenAnew(t *testing.T) {
	w := calm(t, 3)
	for k := range 5 {
		w.propose(0, fmt.Sprint("p", k))
		w.round([]uint64{0, 9, 8}, allOf(3))
	}
	for i, n := range w.nodes {
		want := stateOf(n)
		for _, keep := range []int{0, 1000} {
			w.disks[i].Restart([]int{keep})
			n := mustOpen(t, w.disks[i], i, 3)
			got := stateOf(n)
			if got.term != want.term || got.log != want.log {
				t.Errorf("node %d is opened anew: %v, was %v", i, got, want)
			}
			if got.sure != 0 || got.leads || got.leader >= 0 {
				t.Errorf("node %d is opened anew: %v", i, got)
			}
		}
		ops := w.disks[i].Ops()
		for _, other := range []int{0, 1, 2} {
			if other != i {
				checkOpen(t, w.disks[i], other, 3, api.ErrForm)
			}
		}
		if w.disks[i].Ops() != ops {
			t.Errorf("refused, it has done %d operations", w.disks[i].Ops()-ops)
		}
		checkOpen(t, w.disks[i], i, 3, api.OK)
		checkOpen(t, w.disks[i], i, 5, api.OK)
	}
}

// P15.1: of a node that has kept nothing yet nothing is there.
func TestOpenNothing(t *testing.T) {
	d := newDisk(t, 0)
	n := mustOpen(t, d, 0, 3)
	if got := stateOf(n); got != (state{leader: n.Leader(), log: "[]"}) || n.Leader() >= 0 {
		t.Errorf("it tells %v", got)
	}
	checkOpen(t, d, 1, 3, api.OK)
	d = newDisk(t, 100)
	d.Put(raft.File, nil)
	checkOpen(t, d, 1, 3, api.OK)
	d.Append(raft.File, []byte("torn"))
	checkOpen(t, d, 2, 3, api.OK)
}

// record: one of a node's file.
func record(kind byte, number uint64, rest ...byte) []byte {
	return append(append([]byte{kind}, pack.Uvarint(number)...), rest...)
}

// checkKept: whether a node number 1 is opened where these records are.
func checkKept(t *testing.T, want api.Errno, records ...[]byte) {
	t.Helper()
	d := newDisk(t, 1<<16)
	g, _ := wal.Open(d, raft.File)
	for _, r := range records {
		g.Append(r)
	}
	n, e := raft.Open(d, 1, 3)
	if e != want || (n != nil) != (e == api.OK) {
		t.Errorf("Open with %v: %d, want %d", records, e, want)
	}
}

// P15.1: what no node of that number has kept.
func TestOpenForeign(t *testing.T) {
	const begin, turn, cut, grow = 0, 1, 2, 3
	me := record(begin, 1)
	// The last byte of a turn is one more than the node that is voted for.
	one, two := record(turn, 1, 0), record(turn, 2, 2)
	x := record(grow, 1, 'x')
	checkKept(t, api.OK)
	checkKept(t, api.OK, me)
	checkKept(t, api.OK, me, one, x, two, record(grow, 2), record(cut, 1), x, record(cut, 0), record(grow, 2, 'y'))
	checkKept(t, api.OK, me, one, record(turn, 1, 3))
	checkKept(t, api.OK, me, record(turn, 7, api.MaxNodes))
	checkKept(t, api.OK, me, one, record(grow, 1, make([]byte, api.MaxData)...))

	checkKept(t, api.ErrForm, nil)
	checkKept(t, api.ErrForm, []byte("hello"))
	checkKept(t, api.ErrForm, record(begin, 0))
	checkKept(t, api.ErrForm, record(begin, 2))
	checkKept(t, api.ErrForm, record(begin, 1, 0))
	checkKept(t, api.ErrForm, []byte{begin})
	checkKept(t, api.ErrForm, []byte{begin, 0x81, 0})
	checkKept(t, api.ErrForm, one)
	checkKept(t, api.ErrForm, one, me)
	for _, r := range [][]byte{
		{}, {turn}, {cut}, {grow}, {4, 0}, {turn, 0x81}, {turn, 0x81, 0, 0}, me, x, one, two,
		record(turn, 1), record(turn, 1, 1, 0), record(turn, 0, 1), record(turn, 2, 0), record(turn, 2, 1), record(turn, 2, 3),
		record(turn, 3, api.MaxNodes+1), record(turn, 3, 255),
		record(cut, 1), record(cut, 2), record(cut, 0, 0), record(cut, 1<<63),
		record(grow, 0), record(grow, 1), record(grow, 3), record(grow, 2, make([]byte, api.MaxData+1)...), record(9, 0),
	} {
		checkKept(t, api.ErrForm, me, one, two, record(grow, 2, 'z'), r)
	}
	checkKept(t, api.ErrForm, me, one, one)
	checkKept(t, api.ErrForm, me, record(turn, 0, 1))
	checkKept(t, api.ErrForm, me, record(cut, 0))
	checkKept(t, api.ErrForm, me, record(grow, 0))
	checkKept(t, api.ErrForm, me, one, record(grow, 0))
}

func checkPropose(t *testing.T, n *raft.Node, data []byte, want api.Errno) {
	t.Helper()
	ahead := stateOf(n)
	if e := n.Propose(data); e != want {
		t.Errorf("Propose of %d bytes = %d, want %d", len(data), e, want)
	}
	if got := stateOf(n); want != api.OK && got != ahead {
		t.Errorf("refused, it tells %v, told %v", got, ahead)
	}
	if want != api.OK {
		return
	}
	if p, term, e := n.Entry(n.Len()); !bytes.Equal(p, data) || term != n.Term() || e != api.OK {
		t.Errorf("Entry = %q, %d, %d, want %q", p, term, e, data)
	}
}

// P15.2
func TestPropose(t *testing.T) {
	w := calm(t, 3)
	full := bytes.Repeat([]byte("m"), api.MaxData)
	for _, data := range [][]byte{nil, {}, {0}, []byte("a"), full[1:], full} {
		w.proposed[string(data)]++
		checkPropose(t, w.nodes[0], data, api.OK)
		checkPropose(t, w.nodes[1], data, api.ErrState)
		checkPropose(t, alone(t, newDisk(t, 4096)), data, api.OK)
		checkPropose(t, mustOpen(t, newDisk(t, 4096), 0, 1), data, api.ErrState)
	}
	for _, many := range []int{api.MaxData + 1, 1 << 16} {
		for _, n := range append(slices.Clone(w.nodes), mustOpen(t, newDisk(t, 0), 0, 1)) {
			checkPropose(t, n, make([]byte, many), api.ErrLong)
		}
	}
	for range 4 {
		w.settle(allOf(3))
		w.round([]uint64{0, 9, 8}, allOf(3))
	}
	for i, n := range w.nodes {
		if p, _, _ := n.Entry(n.Sure()); !bytes.Equal(p, full) {
			t.Errorf("node %d: %q is sure last", i, p)
		}
	}
}

// P15.2: one that stands doesn't lead yet.
func TestProposeStands(t *testing.T) {
	w := newWorld(t, 2, 4096, 1)
	both := allOf(2)
	for range 20 {
		checkPropose(t, w.nodes[0], []byte("x"), api.ErrState)
		w.tick(0, 0)
		w.gather()
		if w.nodes[0].Term() > 0 {
			break
		}
		w.settle(both)
	}
	checkPropose(t, w.nodes[0], []byte("x"), api.ErrState)
	w.settle(both)
	w.proposed["x"]++
	checkPropose(t, w.nodes[0], []byte("x"), api.OK)
}

// packets: some that nodes send, of each kind: those of an election, of entries, and of one who must go back.
func packets(t *testing.T) []api.Packet {
	t.Helper()
	w := newWorld(t, 3, 1<<20, 1)
	var all []api.Packet
	run := func(rounds int, group []bool) {
		for range rounds {
			for i := range w.nodes {
				if group[i] {
					w.tick(i, uint64(3*i))
				}
			}
			for w.gather(); len(w.wire) > 0; w.gather() {
				p := w.take(0)
				all = append(all, p)
				if group[p.From] && group[p.To] {
					w.deliver(p)
				}
			}
		}
	}
	run(9, allOf(3))
	w.propose(0, "one")
	w.propose(0, "two")
	run(2, allOf(3))
	w.propose(0, "only at node 0")
	run(30, []bool{false, true, true})
	w.propose(1, "three")
	w.propose(2, "three")
	run(20, allOf(3))
	if w.nodes[0].Sure() < 5 {
		t.Fatalf("%d are sure", w.nodes[0].Sure())
	}
	return all
}

// checkNoPacket: p is refused, and nothing changes by it.
func checkNoPacket(t *testing.T, n *raft.Node, d *disk.Disk, from int, p []byte, want api.Errno) {
	t.Helper()
	ahead, ops := stateOf(n), d.Ops()
	if e := n.Step(from, p); e != want {
		t.Errorf("Step(%d, %x) = %d, want %d", from, p, e, want)
	}
	if got := stateOf(n); got != ahead || d.Ops() != ops || len(n.Out()) > 0 {
		t.Errorf("Step(%d, %x) has made %v of %v", from, p, got, ahead)
	}
}

// P15.2: who sends it.
func TestStepFrom(t *testing.T) {
	all := packets(t)
	w := calm(t, 3)
	for _, from := range []int{math.MinInt, -1, 0, 3, 4, math.MaxInt} {
		checkNoPacket(t, w.nodes[0], w.disks[0], from, nil, api.ErrArg)
		checkNoPacket(t, w.nodes[0], w.disks[0], from, []byte("no packet"), api.ErrArg)
		for _, p := range all[:20] {
			checkNoPacket(t, w.nodes[0], w.disks[0], from, p.Data, api.ErrArg)
		}
	}
	n := alone(t, newDisk(t, 4096))
	for _, from := range []int{-1, 0, 1} {
		if e := n.Step(from, all[0].Data); e != api.ErrArg {
			t.Errorf("alone: Step(%d) = %d", from, e)
		}
	}
}

// P15.2: no node sends it.
func TestStepForm(t *testing.T) {
	all := packets(t)
	w := calm(t, 3)
	n, d := w.nodes[1], w.disks[1]
	for _, p := range [][]byte{nil, {}, {0}, {0xf1}, []byte("hello"), make([]byte, 100)} {
		checkNoPacket(t, n, d, 0, p, api.ErrForm)
		checkNoPacket(t, n, d, 2, p, api.ErrForm)
	}
	for size := range 20 {
		f, _ := pack.Frame(make([]byte, size))
		checkNoPacket(t, n, d, 0, f, api.ErrForm)
	}
	for _, p := range all {
		if p.To != 1 {
			checkNoPacket(t, n, d, p.From-p.From%2, p.Data, api.ErrForm)
			continue
		}
		checkNoPacket(t, n, d, 2-p.From, p.Data, api.ErrForm)
		checkNoPacket(t, n, d, p.From, append(slices.Clone(p.Data), 0), api.ErrForm)
		checkNoPacket(t, n, d, p.From, append(slices.Clone(p.Data), p.Data...), api.ErrForm)
		for k := range p.Data {
			checkNoPacket(t, n, d, p.From, p.Data[:k], api.ErrForm)
			checkNoPacket(t, n, d, p.From, p.Data[k+1:], api.ErrForm)
			for bit := range 8 {
				q := slices.Clone(p.Data)
				q[k] ^= 1 << bit
				checkNoPacket(t, n, d, p.From, q, api.ErrForm)
			}
		}
	}
}

// P1: whatever stands in a frame.
func TestStepForged(t *testing.T) {
	all := packets(t)
	rnd := rand.New(rand.NewSource(5))
	taken := 0
	for range 300 {
		w := calm(t, 3)
		w.nodes[2] = mustOpen(t, newDisk(t, 1<<16), 2, 3)
		for range 60 {
			p := all[rnd.Intn(len(all))]
			payload, _, _ := pack.ReadFrame(p.Data, 0)
			for range 1 + rnd.Intn(3) {
				k := rnd.Intn(len(payload))
				switch rnd.Intn(4) {
				case 0:
					payload[k] = byte(rnd.Intn(6))
				case 1:
					payload[k] = byte(rnd.Intn(256))
				case 2:
					payload = slices.Insert(payload, k, byte(rnd.Intn(256)))
				case 3:
					payload = append(payload[:k:k], payload[k+1:]...)
				}
				if len(payload) == 0 {
					payload = []byte{0}
				}
			}
			f, _ := pack.Frame(payload)
			n := w.nodes[p.To]
			ahead := stateOf(n)
			e := n.Step(p.From, f)
			if e == api.OK {
				taken++
			} else if e != api.ErrForm || stateOf(n) != ahead {
				t.Fatalf("Step(%d, %x) = %d", p.From, f, e)
			}
			n.Tick(rnd.Uint64())
			n.Out()
			for i := -1; i <= n.Len()+1; i++ {
				n.Entry(i)
			}
		}
	}
	t.Logf("%d were taken", taken)
}

// message: the frame of a message of these numbers.
func message(kind byte, numbers ...uint64) []byte {
	p := []byte{kind}
	for _, v := range numbers {
		p = append(p, pack.Uvarint(v)...)
	}
	return p
}

// P15.2: messages that are no node's, by what they tell.
func TestStepWrong(t *testing.T) {
	const wouldYou, iWould, electMe, iElect, addThese, iHave = 0, 1, 2, 3, 4, 5
	const big = 1<<60 + 1
	check := func(want api.Errno, payload []byte) {
		t.Helper()
		d := newDisk(t, 1<<16)
		n := mustOpen(t, d, 1, 3)
		f, _ := pack.Frame(payload)
		if want != api.OK {
			checkNoPacket(t, n, d, 0, f, want)
		} else if e := n.Step(0, f); e != api.OK {
			t.Errorf("Step(%x) = %d", payload, e)
		}
	}
	data := func(m []byte, entries ...string) []byte {
		for _, s := range entries {
			m = append(m, s...)
		}
		return m
	}
	// From, to, then the kind's own.
	check(api.OK, message(wouldYou, 0, 1, 0, 0, 0))
	check(api.OK, message(wouldYou, 0, 1, 3, 7, 3))
	check(api.OK, message(wouldYou, 0, 1, big-1, 7, 3))
	check(api.ErrForm, message(wouldYou, 0, 1, 3, 7, 4))
	check(api.ErrForm, message(wouldYou, 0, 1, 3, 0, 3))
	check(api.ErrForm, message(wouldYou, 0, 1, 3, 7, 0))
	check(api.ErrForm, message(wouldYou, 0, 1, big, 7, 3))
	check(api.ErrForm, message(wouldYou, 0, 1, 3, 7, 3, 0))
	check(api.ErrForm, message(wouldYou, 0, 1, 3, 7))
	check(api.ErrForm, message(wouldYou, 2, 1, 3, 7, 3))
	check(api.ErrForm, message(wouldYou, 0, 2, 3, 7, 3))
	check(api.ErrForm, message(6, 0, 1, 3, 7, 3))
	check(api.ErrForm, message(6))

	check(api.OK, message(iWould, 0, 1, 0, 0))
	check(api.OK, message(iWould, 0, 1, 9, 1))
	check(api.ErrForm, message(iWould, 0, 1, 9, 2))

	check(api.OK, message(electMe, 0, 1, 1, 0, 0))
	check(api.OK, message(electMe, 0, 1, 2, 1, 1))
	check(api.ErrForm, message(electMe, 0, 1, 0, 0, 0))
	check(api.ErrForm, message(electMe, 0, 1, 2, 1, 2))
	check(api.ErrForm, message(electMe, 0, 1, 2, 0, 1))
	check(api.ErrForm, message(electMe, 0, 1, 2, 1, 0))

	check(api.OK, message(iElect, 0, 1, 1, 1))
	check(api.ErrForm, message(iElect, 0, 1, 0, 0))
	check(api.ErrForm, message(iElect, 0, 1, 1, 2))

	check(api.OK, message(iHave, 0, 1, 1, 1, 1, 0))
	check(api.ErrForm, message(iHave, 0, 1, 0, 1, 1, 0))
	check(api.ErrForm, message(iHave, 0, 1, 1, 0, 1, 0))
	check(api.ErrForm, message(iHave, 0, 1, 1, 1, 2, 0))
	check(api.ErrForm, message(iHave, 0, 1, 1, 1, 1, big))

	add := func(term, mark, at, atTerm, sure, many uint64) []byte {
		return message(addThese, 0, 1, term, mark, at, atTerm, sure, many)
	}
	check(api.OK, add(1, 1, 0, 0, 0, 0))
	check(api.ErrForm, add(3, 1, 0, 0, 2, 2))
	check(api.OK, data(add(3, 1, 0, 0, 2, 2), "\x01\x00", "\x03\x01x"))
	check(api.OK, data(add(3, 1, 5, 2, 7, 2), "\x02\x00", "\x02\x01x"))
	check(api.ErrForm, data(add(3, 1, 0, 0, 3, 2), "\x01\x00", "\x03\x01x"))
	check(api.ErrForm, data(add(3, 1, 0, 0, 2, 2), "\x00\x00", "\x03\x01x"))
	check(api.ErrForm, data(add(3, 1, 0, 0, 2, 2), "\x02\x00", "\x01\x01x"))
	check(api.ErrForm, data(add(3, 1, 0, 0, 2, 2), "\x01\x00", "\x04\x01x"))
	check(api.ErrForm, data(add(3, 1, 5, 2, 7, 2), "\x01\x00", "\x02\x01x"))
	check(api.ErrForm, data(add(3, 1, 0, 0, 2, 2), "\x01\x00"))
	check(api.ErrForm, data(add(3, 1, 0, 0, 2, 2), "\x01\x00", "\x03\x01"))
	check(api.ErrForm, data(add(3, 1, 0, 0, 2, 2), "\x01\x00", "\x03\x01x", "\x03\x01x"))
	check(api.ErrForm, add(0, 1, 0, 0, 0, 0))
	check(api.ErrForm, add(1, 0, 0, 0, 0, 0))
	check(api.ErrForm, add(1, 1, 1, 0, 0, 0))
	check(api.ErrForm, add(1, 1, 0, 1, 0, 0))
	check(api.ErrForm, add(1, 1, 1, 2, 0, 0))
	check(api.ErrForm, add(1, 1, 0, 0, 0, 1<<60))
	long := string(pack.Text(string(make([]byte, api.MaxData))))
	check(api.OK, data(add(1, 1, 0, 0, 0, 1), "\x01", long))
	long = string(pack.Text(string(make([]byte, api.MaxData+1))))
	check(api.ErrForm, data(add(1, 1, 0, 0, 0, 1), "\x01", long))
	var many []string
	for range 51 {
		many = append(many, "\x01\x00")
	}
	check(api.OK, data(add(1, 1, 0, 0, 0, 50), many[:50]...))
	check(api.ErrForm, data(add(1, 1, 0, 0, 0, 51), many...))
}

// P15.2: what is handed in isn't kept, what is told isn't shared.
func TestMemory(t *testing.T) {
	w := calm(t, 3)
	data := []byte("data")
	w.proposed["data"]++
	w.nodes[0].Propose(data[:3:3])
	if string(data) != "data" {
		t.Errorf("Propose has made %q", data)
	}
	copy(data, "xxxx")
	w.proposed["dat"]++
	for _, p := range w.nodes[0].Out() {
		room := append(slices.Clone(p.Data), "room"...)
		q := room[:len(p.Data)]
		if e := w.nodes[p.To].Step(p.From, q); e != api.OK {
			t.Fatalf("Step: %d", e)
		}
		if !bytes.Equal(room, append(slices.Clone(p.Data), "room"...)) {
			t.Error("Step has changed the packet")
		}
		clear(room)
		clear(p.Data[:cap(p.Data)])
	}
	for range 3 {
		w.settle(allOf(3))
		w.round([]uint64{0, 9, 8}, allOf(3))
	}
	for i, n := range w.nodes {
		for range 2 {
			p, _, _ := n.Entry(n.Len())
			if string(p) != "dat" {
				t.Errorf("node %d: the last is %q", i, p)
			}
			copy(p, "zzzz")
			_ = append(p, "zzzz"...)
		}
		w.check(i)
	}
	l := w.nodes[0].Out()
	w.nodes[0].Tick(0)
	m := w.nodes[0].Out()
	for _, p := range m {
		ahead := slices.Clone(p.Data)
		for _, q := range slices.Concat(l, m) {
			if &q.Data[0] != &p.Data[0] {
				clear(q.Data)
			}
		}
		if !bytes.Equal(p.Data, ahead) {
			t.Error("two packets share memory")
		}
		break
	}
}

// P15.3: the power goes off in whatever operation, of whatever call.
func TestFallInEach(t *testing.T) {
	for seed := range int64(6) {
		for arm := 1; arm < 60; arm++ {
			w := newWorld(t, 3, 1<<20, seed)
			i := int(seed) % 3
			w.disks[i].Arm(arm)
			for round := 0; round < 30 && w.nodes[i] != nil; round++ {
				for j := range w.nodes {
					w.tick(j, uint64(4*j))
				}
				for k, n := range w.nodes {
					if n.Leads() {
						w.propose(k, w.text())
					}
				}
				w.settle(allOf(3))
			}
			if w.nodes[i] == nil && w.fell != 1 {
				t.Fatalf("%d have fallen", w.fell)
			}
			w.restart(i, arm%7*9)
			w.disks[i].Arm(0)
			w.holdQuiet(w.draws(), allOf(3))
		}
	}
}

// P15.3: a node alone, with a disk that is full, or whose power goes off.
func TestFallAlone(t *testing.T) {
	for room := range 60 {
		n := mustOpen(t, newDisk(t, room), 0, 1)
		var e api.Errno
		for k := 0; k < 20 && e == api.OK; k++ {
			e = n.Tick(0)
		}
		for k := 0; k < 10 && e == api.OK; k++ {
			e = n.Propose([]byte("x"))
		}
		if e != api.ErrFull || n.Leads() || n.Leader() >= 0 {
			t.Fatalf("%d bytes of room: %d, leads %v", room, e, n.Leads())
		}
		if e := n.Tick(0); e != api.ErrState {
			t.Fatalf("%d bytes of room: Tick: %d", room, e)
		}
		if e := n.Propose(nil); e != api.ErrState {
			t.Fatalf("%d bytes of room: Propose: %d", room, e)
		}
	}
	d := newDisk(t, 4096)
	n := alone(t, d)
	at := n.Len()
	d.Arm(1)
	if e := n.Propose([]byte("x")); e != api.ErrCrash || n.Len() != at {
		t.Errorf("Propose: %d, %d entries", e, n.Len())
	}
	d.Restart([]int{1000})
	if e := n.Propose([]byte("y")); e != api.ErrState {
		t.Errorf("Propose behind the fall: %d", e)
	}
	n = alone(t, d)
	if p, _, _ := n.Entry(at + 1); string(p) != "x" || n.Sure() != at+2 {
		t.Errorf("opened again, number %d is %q, %d are sure", at+1, p, n.Sure())
	}
}

// P15.3: what was to be sent ahead of the fall isn't sent any more.
func TestFallSilent(t *testing.T) {
	w := calm(t, 3)
	w.nodes[0].Tick(0)
	w.disks[0].Arm(1)
	if e := w.nodes[0].Propose([]byte("x")); e != api.ErrCrash {
		t.Fatalf("Propose: %d", e)
	}
	w.checkFallen(0)
	if w.nodes[0].Leader() >= 0 {
		t.Error("it knows who leads")
	}
	p := w.nodes[1]
	for range 20 {
		p.Tick(0)
	}
	for _, q := range p.Out() {
		if q.To == 0 {
			if e := w.nodes[0].Step(1, q.Data); e != api.ErrState {
				t.Errorf("Step behind the fall: %d", e)
			}
		}
	}
	w.checkFallen(0)
}

// firstTold: what a leader, node 0, tells node 1, which was never heard: its term and its first two entries.
func firstTold(t *testing.T) []byte {
	t.Helper()
	w := newWorld(t, 3, 1<<16, 1)
	for range 20 {
		w.round([]uint64{0, 0, 9}, []bool{true, false, true})
	}
	w.propose(0, "x")
	w.settle([]bool{true, false, true})
	w.nodes[0].Tick(0)
	for _, p := range w.nodes[0].Out() {
		if p.To == 1 {
			return p.Data
		}
	}
	t.Fatal("nothing is told")
	return nil
}

// P15.4: where a disk was full, records stand there that aren't durable; what an opened node tells is.
func TestOpenDurable(t *testing.T) {
	p := firstTold(t)
	left := 0
	for room := range 60 {
		d := newDisk(t, room)
		e := mustOpen(t, d, 1, 3).Step(0, p)
		if e != api.OK && e != api.ErrFull {
			t.Fatalf("%d bytes of room: Step: %d", room, e)
		}
		if e == api.ErrFull && d.Used() > d.Sure(raft.File) {
			left++
			d.Arm(1)
			checkOpen(t, d, 1, 3, api.ErrCrash)
			d.Restart([]int{d.Used()})
			d = newDisk(t, room)
			mustOpen(t, d, 1, 3).Step(0, p)
		}
		want := stateOf(mustOpen(t, d, 1, 3))
		d.Restart(nil)
		if got := stateOf(mustOpen(t, d, 1, 3)); got != want {
			t.Errorf("%d bytes of room: %v, was %v", room, got, want)
		}
	}
	if left == 0 {
		t.Error("no disk was full with records that aren't durable")
	}
}

// P15.3
func TestNil(t *testing.T) {
	var n *raft.Node
	for _, e := range []api.Errno{n.Tick(1), n.Propose(nil), n.Propose(make([]byte, 1000)), n.Step(-1, nil), n.Step(0, []byte("x"))} {
		if e != api.ErrNone {
			t.Errorf("a nil node answers %d", e)
		}
	}
	if l := n.Out(); len(l) > 0 {
		t.Errorf("Out = %v", l)
	}
	if n.Term() != 0 || n.Leader() != -1 || n.Leads() || n.Len() != 0 || n.Sure() != 0 {
		t.Errorf("it tells %d, %d, %v, %d, %d", n.Term(), n.Leader(), n.Leads(), n.Len(), n.Sure())
	}
	for _, i := range []int{-1, 0, 1} {
		if p, term, e := n.Entry(i); len(p) > 0 || term != 0 || e != api.ErrNone {
			t.Errorf("Entry(%d) = %v, %d, %d", i, p, term, e)
		}
	}
}

// P15.4
func TestEntry(t *testing.T) {
	w := calm(t, 3)
	for k := range 70 {
		w.propose(0, fmt.Sprint("p", k))
	}
	w.settle(allOf(3))
	for i, n := range w.nodes {
		if n.Len() != 71 || n.Term() != 1 || n.Leader() != 0 || n.Leads() != (i == 0) {
			t.Errorf("node %d tells %v", i, stateOf(n))
		}
		for _, k := range []int{math.MinInt, -1, 0, n.Len() + 1, math.MaxInt} {
			if p, term, e := n.Entry(k); len(p) > 0 || term != 0 || e != api.ErrNone {
				t.Errorf("Entry(%d) = %v, %d, %d", k, p, term, e)
			}
		}
		for k := range 71 {
			want := ""
			if k > 0 {
				want = fmt.Sprint("p", k-1)
			}
			if p, term, e := n.Entry(k + 1); string(p) != want || term != 1 || e != api.OK {
				t.Errorf("Entry(%d) = %q, %d, %d", k+1, p, term, e)
			}
		}
	}
	if w.nodes[0].Sure() != 71 {
		t.Errorf("%d are sure", w.nodes[0].Sure())
	}
}
