package raft_test

import (
	"fmt"
	"hash/fnv"
	"math/rand"
	"testing"

	"fascine/api"
	"fascine/disk"
	"fascine/raft"
)

// told is an entry as a node tells it.
type told struct {
	data string
	term uint64
}

// sureOne is an entry that was sure, and the term of the node that told so first.
type sureOne struct {
	told
	made uint64
}

// spot is an entry's number and its term: by P15.5 (c) it says all that stands up to it.
type spot struct {
	number int
	term   uint64
}

// world is nodes, their disks and the packets between them, and all that P15.5 asks to be remembered of them.
type world struct {
	t        *testing.T
	rnd      *rand.Rand
	disks    []*disk.Disk
	nodes    []*raft.Node // nil: it is down
	wire     []api.Packet
	leaders  map[uint64]int
	terms    []uint64
	sure     []sureOne
	surely   []int // how many a node has called sure since it was opened
	upTo     map[spot]uint64
	proposed map[string]int
	fell     int
	full     int
}

func newWorld(t *testing.T, nodes, room int, seed int64) *world {
	t.Helper()
	w := &world{
		t:        t,
		rnd:      rand.New(rand.NewSource(seed)),
		leaders:  map[uint64]int{},
		upTo:     map[spot]uint64{},
		proposed: map[string]int{},
		terms:    make([]uint64, nodes),
		surely:   make([]int, nodes),
		nodes:    make([]*raft.Node, nodes),
	}
	for range nodes {
		d, e := disk.New(room)
		if e != api.OK {
			t.Fatalf("disk.New(%d): %d", room, e)
		}
		w.disks = append(w.disks, d)
	}
	for i := range nodes {
		w.open(i)
	}
	return w
}

// open: the node comes up, if its disk lets it.
func (w *world) open(i int) {
	w.t.Helper()
	n, e := raft.Open(w.disks[i], i, len(w.nodes))
	switch e {
	case api.OK:
		if n.Leads() || n.Sure() != 0 || n.Leader() >= 0 {
			w.t.Fatalf("node %d is opened: leads %v, sure %d, leader %d", i, n.Leads(), n.Sure(), n.Leader())
		}
		w.nodes[i], w.surely[i] = n, 0
		w.check(i)
	case api.ErrCrash, api.ErrFull:
		w.nodes[i] = nil
	default:
		w.t.Fatalf("node %d: Open: %d", i, e)
	}
}

// restart: the disk goes off and on, and the node comes up.
func (w *world) restart(i, keep int) {
	w.t.Helper()
	var keeps []int
	for range w.disks[i].Names() {
		keeps = append(keeps, keep)
	}
	w.disks[i].Restart(keeps)
	w.open(i)
}

// told: what a call of the node number i has answered. One whose disk has failed does nothing any more.
func (w *world) told(i int, e api.Errno) {
	w.t.Helper()
	n := w.nodes[i]
	switch e {
	case api.OK:
		w.check(i)
		return
	case api.ErrCrash:
		w.fell++
	case api.ErrFull:
		w.full++
	default:
		w.t.Fatalf("node %d answers %d", i, e)
	}
	w.checkFallen(i)
	w.nodes[i] = nil
	// What it told is not gone, whatever the disk keeps; but what was to be cut may be.
	w.terms[i] = max(w.terms[i], n.Term())
}

func (w *world) checkFallen(i int) {
	w.t.Helper()
	n := w.nodes[i]
	other := (i + 1) % len(w.nodes)
	for _, e := range []api.Errno{n.Tick(3), n.Propose(nil), n.Propose([]byte("late"))} {
		if e != api.ErrState {
			w.t.Fatalf("node %d has fallen, answers %d", i, e)
		}
	}
	if e := n.Propose(make([]byte, api.MaxData+1)); e != api.ErrLong {
		w.t.Fatalf("node %d has fallen, too long: %d", i, e)
	}
	if e := n.Step(i, nil); e != api.ErrArg {
		w.t.Fatalf("node %d has fallen, from itself: %d", i, e)
	}
	if other != i {
		if e := n.Step(other, nil); e != api.ErrForm {
			w.t.Fatalf("node %d has fallen, no packet: %d", i, e)
		}
	}
	if l := n.Out(); len(l) > 0 {
		w.t.Fatalf("node %d has fallen, sends %v", i, l)
	}
	if n.Leads() {
		w.t.Fatalf("node %d has fallen, leads", i)
	}
}

func (w *world) tick(i int, draw uint64) {
	w.t.Helper()
	if w.nodes[i] != nil {
		w.told(i, w.nodes[i].Tick(draw))
	}
}

func (w *world) propose(i int, data string) {
	w.t.Helper()
	n := w.nodes[i]
	if n == nil {
		return
	}
	if !n.Leads() {
		if e := n.Propose([]byte(data)); e != api.ErrState {
			w.t.Fatalf("node %d doesn't lead, Propose: %d", i, e)
		}
		return
	}
	w.proposed[data]++
	ahead := n.Len()
	e := n.Propose([]byte(data))
	if p, term, _ := n.Entry(n.Len()); e == api.OK && (n.Len() != ahead+1 || string(p) != data || term != n.Term()) {
		w.t.Fatalf("node %d has %d entries behind a proposal, the last %q of %d", i, n.Len(), p, term)
	}
	w.told(i, e)
}

// gather: what nodes send is on its way.
func (w *world) gather() {
	w.t.Helper()
	for i, n := range w.nodes {
		l := n.Out()
		for _, p := range l {
			if p.From != i || p.To < 0 || p.To >= len(w.nodes) || p.To == i || len(p.Data) == 0 {
				w.t.Fatalf("node %d sends %v", i, p)
			}
		}
		w.wire = append(w.wire, l...)
		if l := n.Out(); len(l) > 0 {
			w.t.Fatalf("node %d tells its packets twice", i)
		}
	}
}

func (w *world) deliver(p api.Packet) {
	w.t.Helper()
	if w.nodes[p.To] != nil {
		w.told(p.To, w.nodes[p.To].Step(p.From, p.Data))
	}
}

// take: a packet of the wire, which isn't on it any more.
func (w *world) take(k int) api.Packet {
	p := w.wire[k]
	w.wire = append(w.wire[:k:k], w.wire[k+1:]...)
	return p
}

// entries: the log of a node.
func entries(n *raft.Node) []told {
	var l []told
	for k := range n.Len() {
		p, term, _ := n.Entry(k + 1)
		l = append(l, told{string(p), term})
	}
	return l
}

// check: what P15.4 and P15.5 say of the node number i.
func (w *world) check(i int) {
	w.t.Helper()
	n := w.nodes[i]
	if n.Term() < w.terms[i] {
		w.t.Fatalf("(e) node %d: term %d behind %d", i, n.Term(), w.terms[i])
	}
	w.terms[i] = n.Term()
	l := entries(n)
	w.checkLog(i, l)
	w.checkSure(i, l)
	if n.Leads() {
		w.checkLeader(i, l)
	}
	if n.Leader() >= len(w.nodes) || n.Leads() != (n.Leader() == i) {
		w.t.Fatalf("node %d leads %v, leader %d", i, n.Leads(), n.Leader())
	}
	w.checkDurable(i, l)
}

// checkLog: (c), of all logs at all moments.
func (w *world) checkLog(i int, l []told) {
	w.t.Helper()
	h := fnv.New64a()
	for k, x := range l {
		fmt.Fprintf(h, "%d %q ", x.term, x.data)
		s := spot{k + 1, x.term}
		if sum, ok := w.upTo[s]; ok && sum != h.Sum64() {
			w.t.Fatalf("(c) node %d: another log up to %v", i, s)
		}
		w.upTo[s] = h.Sum64()
		if x.term < 1 || x.term > w.nodes[i].Term() || k > 0 && x.term < l[k-1].term {
			w.t.Fatalf("node %d: terms of %v", i, l)
		}
	}
}

// checkSure: (b) and (d).
func (w *world) checkSure(i int, l []told) {
	w.t.Helper()
	n := w.nodes[i]
	if n.Sure() > len(l) || n.Sure() < w.surely[i] {
		w.t.Fatalf("node %d: %d are sure of %d, there were %d", i, n.Sure(), len(l), w.surely[i])
	}
	w.surely[i] = n.Sure()
	for k, x := range l[:n.Sure()] {
		if k == len(w.sure) {
			w.sure = append(w.sure, sureOne{x, n.Term()})
		}
		if w.sure[k].told != x {
			w.t.Fatalf("(b) node %d: %v is sure as number %d, it was %v", i, x, k+1, w.sure[k])
		}
		if x.data != "" && w.proposed[x.data] == 0 {
			w.t.Fatalf("(d) node %d: %q is sure", i, x.data)
		}
	}
}

// checkLeader: (a), (f) and (g).
func (w *world) checkLeader(i int, l []told) {
	w.t.Helper()
	n := w.nodes[i]
	if k, ok := w.leaders[n.Term()]; ok && k != i {
		w.t.Fatalf("(a) nodes %d and %d lead in the term %d", k, i, n.Term())
	}
	w.leaders[n.Term()] = i
	for k, x := range w.sure {
		if x.made < n.Term() && (k >= len(l) || l[k] != x.told) {
			w.t.Fatalf("(f) node %d leads in the term %d without %v, number %d", i, n.Term(), x, k+1)
		}
	}
	if len(w.nodes) == 1 && n.Sure() != n.Len() {
		w.t.Fatalf("(g) alone: %d of %d are sure", n.Sure(), n.Len())
	}
}

// checkDurable: a node that is opened with no more than what is durable tells the same.
func (w *world) checkDurable(i int, l []told) {
	w.t.Helper()
	if w.rnd.Intn(8) > 0 || !w.disks[i].On() {
		return
	}
	d := w.durable(i)
	n, e := raft.Open(d, i, len(w.nodes))
	if e != api.OK {
		w.t.Fatalf("node %d, what is durable: %d", i, e)
	}
	if got := entries(n); n.Term() != w.nodes[i].Term() || fmt.Sprint(got) != fmt.Sprint(l) {
		w.t.Fatalf("node %d: term %d, %v, but durable are %d, %v", i, w.nodes[i].Term(), l, n.Term(), got)
	}
}

// durable: a disk with what is durable on that of a node.
func (w *world) durable(i int) *disk.Disk {
	d, _ := disk.New(api.MaxRoom)
	for _, name := range w.disks[i].Names() {
		p, _ := w.disks[i].Read(name)
		d.Put(name, p[:w.disks[i].Sure(name)])
		d.Sync(name)
	}
	return d
}

// round: each node that is in the group is ticked once, then all packets are handed over, as long as there are some; those that go out of the group or come from beyond vanish.
func (w *world) round(draws []uint64, group []bool) {
	w.t.Helper()
	for i := range w.nodes {
		if group[i] {
			w.tick(i, draws[i])
		}
	}
	w.settle(group)
}

// settle: all packets are handed over, in whatever order.
func (w *world) settle(group []bool) {
	w.t.Helper()
	w.gather()
	for range 100000 {
		if len(w.wire) == 0 {
			return
		}
		k := 0
		if w.rnd.Intn(2) == 0 {
			k = w.rnd.Intn(len(w.wire))
		}
		if p := w.take(k); group[p.From] && group[p.To] {
			w.deliver(p)
		}
		w.gather()
	}
	w.t.Fatal("there are packets without end")
}

func allOf(nodes int) []bool {
	l := make([]bool, nodes)
	for i := range l {
		l[i] = true
	}
	return l
}

// leaderOf: the node of a group whom all of it follow; below 0: there is none.
func (w *world) leaderOf(group []bool) int {
	at := -1
	for i, n := range w.nodes {
		if group[i] && n.Leads() {
			if at >= 0 {
				return -1
			}
			at = i
		}
	}
	for i, n := range w.nodes {
		if group[i] && n.Leader() != at {
			return -1
		}
	}
	return at
}

// draws: one of its own for each node, which differ modulo 10.
func (w *world) draws() []uint64 {
	var l []uint64
	for _, v := range w.rnd.Perm(10)[:len(w.nodes)] {
		l = append(l, uint64(v)+10*uint64(w.rnd.Intn(3)))
	}
	if w.rnd.Intn(4) == 0 {
		for i, v := range l {
			l[i] = v + (1<<64-1)/10*10 - 40
		}
	}
	return l
}

// holdQuiet: P15.6, among the nodes of a group that hear one another, which are more than half of all. It answers behind how many rounds one led.
func (w *world) holdQuiet(draws []uint64, group []bool) int {
	w.t.Helper()
	rounds := 0
	for ; rounds < 60 && (rounds == 0 || w.leaderOf(group) < 0); rounds++ {
		w.round(draws, group)
	}
	at := w.leaderOf(group)
	if at < 0 {
		w.t.Fatalf("no leader behind 60 rounds with %v in %v", draws, group)
	}
	term := w.nodes[at].Term()
	for range 3 {
		w.holdProposed(at, draws, group)
	}
	for range 20 {
		w.round(draws, group)
	}
	if w.leaderOf(group) != at || w.nodes[at].Term() != term {
		w.t.Fatalf("node %d doesn't lead any more", at)
	}
	return rounds
}

// holdProposed: what is proposed to the leader is sure at all behind 4 rounds.
func (w *world) holdProposed(at int, draws []uint64, group []bool) {
	w.t.Helper()
	var last string
	for range 1 + w.rnd.Intn(3) {
		last = w.text()
		w.propose(at, last)
	}
	number := w.nodes[at].Len()
	for range 4 {
		w.round(draws, group)
	}
	for i, n := range w.nodes {
		if !group[i] {
			continue
		}
		if p, _, _ := n.Entry(number); n.Sure() < number || string(p) != last {
			w.t.Fatalf("node %d: %d are sure, number %d is %q, want %q", i, n.Sure(), number, p, last)
		}
	}
}

// text: one that wasn't proposed yet.
func (w *world) text() string {
	return fmt.Sprintf("p%d-%d", len(w.proposed), w.rnd.Intn(1000))
}

// noise: whatever may become of packets, ticks and disks.
func (w *world) noise(steps int, falls bool) {
	w.t.Helper()
	for range steps {
		i := w.rnd.Intn(len(w.nodes))
		switch k := w.rnd.Intn(100); {
		case k < 25:
			w.tick(i, w.rnd.Uint64())
		case k < 75:
			w.someWire(k)
		case k < 85:
			w.proposeToLeader()
		case k < 86 && falls:
			w.disks[i].Arm(1 + w.rnd.Intn(6))
		case k < 87 && falls:
			w.restart(i, w.rnd.Intn(40))
		case k < 93:
			if w.nodes[i] == nil {
				w.restart(i, w.rnd.Intn(40))
			}
		case k < 94:
			w.wire = nil
		case k < 96 && w.rnd.Intn(4) == 0:
			w.round(w.draws(), w.someGroup())
		}
		w.gather()
	}
}

// someWire: a packet comes in, is lost, or comes in and stays on its way.
func (w *world) someWire(k int) {
	w.t.Helper()
	if len(w.wire) == 0 {
		return
	}
	at := w.rnd.Intn(len(w.wire))
	switch {
	case k < 60:
		w.deliver(w.take(at))
	case k < 65:
		w.take(at)
	case k < 70:
		w.deliver(w.wire[at])
	default:
		w.deliver(w.take(0))
	}
}

func (w *world) proposeToLeader() {
	w.t.Helper()
	for i, n := range w.nodes {
		if n.Leads() || w.rnd.Intn(10) == 0 {
			w.propose(i, w.text())
		}
	}
}

func (w *world) someGroup() []bool {
	l := make([]bool, len(w.nodes))
	for i := range l {
		l[i] = w.rnd.Intn(3) > 0
	}
	return l
}

// heal: all nodes are up, nothing is armed.
func (w *world) heal() {
	w.t.Helper()
	for i, n := range w.nodes {
		if n == nil || w.rnd.Intn(3) == 0 {
			w.restart(i, w.rnd.Intn(100))
		}
		w.disks[i].Arm(0)
	}
}
