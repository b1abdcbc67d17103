package raft_test

import (
	"fmt"
	"testing"

	"fascine/api"
)

// P15.5: whatever becomes of packets, ticks and disks.
func TestSafeInNoise(t *testing.T) {
	sure, fell, terms := 0, 0, 0
	for seed := range int64(150) {
		w := newWorld(t, 1+int(seed)%api.MaxNodes, 1<<20, seed)
		w.noise(1500, true)
		sure += len(w.sure)
		fell += w.fell
		terms += len(w.leaders)
	}
	if sure < 1000 || fell < 500 || terms < 500 {
		t.Errorf("the noise shows little: %d entries sure, %d falls, %d terms with a leader", sure, fell, terms)
	}
}

// P15.5: disks that are soon full.
func TestSafeWithoutRoom(t *testing.T) {
	full := 0
	for seed := range int64(100) {
		w := newWorld(t, 1+int(seed)%api.MaxNodes, 200+int(seed)*10, seed)
		w.noise(700, seed%2 == 0)
		full += w.full
	}
	if full < 50 {
		t.Errorf("%d disks were full", full)
	}
}

// P15.6, behind any noise.
func TestQuietBehindNoise(t *testing.T) {
	for seed := range int64(200) {
		w := newWorld(t, 1+int(seed)%api.MaxNodes, 1<<20, 1000+seed)
		w.noise(400, true)
		w.heal()
		w.holdQuiet(w.draws(), allOf(len(w.nodes)))
	}
}

// P15.6, among more than half of the nodes, which layer 21 asks for.
func TestQuietInGroup(t *testing.T) {
	for seed := range int64(200) {
		w := newWorld(t, 3+int(seed)%3, 1<<20, 2000+seed)
		w.noise(300, true)
		w.heal()
		group := w.someGroup()
		for !mostOf(group) {
			group = w.someGroup()
		}
		w.holdQuiet(w.draws(), group)
		w.heal()
		w.holdQuiet(w.draws(), allOf(len(w.nodes)))
	}
}

func mostOf(group []bool) bool {
	in := 0
	for _, is := range group {
		if is {
			in++
		}
	}
	return 2*in > len(group)
}

// P15.6: however long each of three nodes has waited.
func TestQuietInEachPhase(t *testing.T) {
	draws := [][]uint64{{0, 1, 2}, {9, 8, 7}, {4, 0, 9}, {5, 16, 1<<64 - 1}}
	for phase := range 12 * 12 * 12 {
		w := newWorld(t, 3, 1<<16, int64(phase))
		l := draws[phase%len(draws)]
		for i, many := range []int{phase % 12, phase / 12 % 12, phase / 144} {
			for range many {
				w.tick(i, l[i])
			}
		}
		if phase%3 == 0 {
			w.gather()
			w.wire = nil
		}
		for rounds := 0; w.leaderOf(allOf(3)) < 0; rounds++ {
			if rounds == 60 {
				t.Fatalf("phase %d, draws %v: no leader", phase, l)
			}
			w.round(l, allOf(3))
		}
		w.holdProposed(w.leaderOf(allOf(3)), l, allOf(3))
	}
}

// P15.6, of a node alone: behind 20 ticks, whatever the draws.
func TestAloneLeads(t *testing.T) {
	for draw := range uint64(40) {
		w := newWorld(t, 1, 4096, 1)
		for range 20 {
			w.tick(0, draw<<59|draw)
		}
		if !w.nodes[0].Leads() || w.nodes[0].Leader() != 0 || w.nodes[0].Term() == 0 {
			t.Fatalf("draw %d: it doesn't lead", draw)
		}
		term := w.nodes[0].Term()
		for k := range 100 {
			w.propose(0, fmt.Sprint("p", k))
			w.tick(0, draw)
		}
		if w.nodes[0].Term() != term || w.nodes[0].Sure() < 100 {
			t.Fatalf("draw %d: term %d, %d are sure", draw, w.nodes[0].Term(), w.nodes[0].Sure())
		}
		if l := w.nodes[0].Out(); len(l) > 0 {
			t.Fatalf("it sends %v", l)
		}
	}
}

// elect: a node comes to lead in a new term by the packets within a group; what it tells as a leader vanishes.
func (w *world) elect(i int, group []bool) {
	w.t.Helper()
	draws := []uint64{9, 9, 9, 9, 9}
	draws[i] = 0
	ahead := w.nodes[i].Term()
	for range 60 {
		for k := range w.nodes {
			if group[k] {
				w.tick(k, draws[k])
			}
		}
		for w.gather(); len(w.wire) > 0; w.gather() {
			if p := w.take(0); group[p.From] && group[p.To] {
				w.deliver(p)
			}
			if w.nodes[i].Leads() && w.nodes[i].Term() > ahead {
				w.gather()
				w.wire = nil
				return
			}
		}
	}
	w.t.Fatalf("node %d doesn't lead in %v", i, group)
}

// among: a group of those nodes.
func among(nodes int, in ...int) []bool {
	l := make([]bool, nodes)
	for _, i := range in {
		l[i] = true
	}
	return l
}

// P15.5 (f): that most have an entry of an earlier term doesn't make it sure, as one who has a later one of its own may still lead.
func TestEarlierTerm(t *testing.T) {
	w := calm(t, 3)
	sure := w.nodes[0].Sure()
	for k := range 120 {
		w.propose(0, fmt.Sprint("old", k))
	}
	w.gather()
	w.wire = nil
	w.elect(2, among(3, 1, 2))
	w.elect(0, among(3, 0, 1))
	// The entries are told in several packets; the leader's own of its term is in the last one, which vanishes.
	w.tick(0, 0)
	for w.gather(); len(w.wire) > 0; w.gather() {
		p := w.take(0)
		if p.To == 0 || p.To == 1 && w.nodes[1].Len() == sure {
			w.deliver(p)
		}
	}
	if many := w.nodes[1].Len(); many <= sure || many >= w.nodes[0].Len() {
		t.Fatalf("node 1 has %d entries", many)
	}
	if w.nodes[0].Sure() != sure {
		t.Fatalf("%d are sure", w.nodes[0].Sure())
	}
	w.elect(2, among(3, 1, 2))
	w.holdQuiet([]uint64{9, 8, 0}, allOf(3))
	if p, _, _ := w.nodes[0].Entry(sure + 1); len(p) > 0 {
		t.Errorf("%q stays at node 0", p)
	}
}

// P15.5 (a): a node that has voted and falls doesn't vote for another one in that term.
func TestVoteIsKept(t *testing.T) {
	for _, keep := range []int{0, 1, 1000} {
		w := newWorld(t, 3, 1<<16, 4)
		// Nodes 0 and 1 stand in one term, and node 2 has heard of neither yet.
		var stood []api.Packet
		for i := range 2 {
			for w.nodes[i].Term() == 0 {
				w.tick(i, 0)
				for w.gather(); len(w.wire) > 0; w.gather() {
					if p := w.take(0); w.nodes[i].Term() == 0 && p.From+p.To == i+2 {
						w.deliver(p)
					} else if w.nodes[i].Term() > 0 && p.To == 2 {
						stood = append(stood, p)
					}
				}
			}
		}
		if len(stood) != 2 || w.nodes[0].Term() != w.nodes[1].Term() {
			t.Fatalf("%d packets, terms %d and %d", len(stood), w.nodes[0].Term(), w.nodes[1].Term())
		}
		w.deliver(stood[0])
		w.gather()
		w.restart(2, keep)
		w.deliver(stood[1])
		w.settle(allOf(3))
		if !w.nodes[0].Leads() || w.nodes[1].Leads() {
			t.Errorf("node 0 leads: %v, node 1: %v", w.nodes[0].Leads(), w.nodes[1].Leads())
		}
	}
}

// P15.5 (c): what a node has added that others never heard of gives way, in memory and on the disk.
func TestGivesWay(t *testing.T) {
	for _, many := range []int{0, 1, 7, 60, 130} {
		w := calm(t, 3)
		for k := range many {
			w.propose(0, fmt.Sprint("lost", k))
		}
		w.gather()
		w.wire = nil
		w.elect(1, among(3, 1, 2))
		for k := range 5 {
			w.propose(1, fmt.Sprint("kept", k))
		}
		w.holdQuiet([]uint64{9, 0, 8}, allOf(3))
		want := stateOf(w.nodes[1])
		for i, n := range w.nodes {
			if got := stateOf(n); got.log != want.log || got.sure != want.sure {
				t.Errorf("node %d: %v, want %v", i, got, want)
			}
			w.disks[i].Restart(nil)
			if got := stateOf(mustOpen(t, w.disks[i], i, 3)); got.log != want.log {
				t.Errorf("node %d opened again: %v, want %v", i, got, want)
			}
		}
	}
}

// P15.6: a node that was away comes back, whatever its term and its log.
func TestComesBack(t *testing.T) {
	for away := range 3 {
		w := calm(t, 3)
		var rest []int
		for i := range 3 {
			if i != away {
				rest = append(rest, i)
			}
		}
		draws := []uint64{3, 5, 7}
		w.holdQuiet(draws, among(3, rest...))
		for range 200 {
			w.tick(away, 0)
			w.gather()
			w.wire = nil
		}
		rounds := w.holdQuiet(draws, allOf(3))
		at := w.leaderOf(allOf(3))
		if rounds > 40 {
			t.Errorf("node %d came back, node %d leads behind %d rounds", away, at, rounds)
		}
	}
}

// P15.6: one who was cut off doesn't make another one lead when it is heard again.
func TestStays(t *testing.T) {
	w := calm(t, 5)
	draws := []uint64{9, 8, 7, 6, 0}
	term := w.nodes[0].Term()
	for range 10 {
		for range 50 {
			w.round(draws, among(5, 0, 1, 2, 3))
			w.tick(4, 0)
		}
		w.gather()
		w.settle(allOf(5))
		for range 5 {
			w.round(draws, allOf(5))
		}
		if w.leaderOf(allOf(5)) != 0 || w.nodes[0].Term() != term {
			t.Fatalf("node %d leads in the term %d", w.leaderOf(allOf(5)), w.nodes[0].Term())
		}
	}
}

// P15.6: old packets that come in again and again don't make anybody believe that a leader is there.
func TestOldPackets(t *testing.T) {
	w := calm(t, 3)
	w.nodes[0].Tick(0)
	old := w.nodes[0].Out()
	group := among(3, 1, 2)
	for rounds := 0; w.leaderOf(group) < 0 || w.leaderOf(group) == 0; rounds++ {
		if rounds == 60 {
			t.Fatal("no leader behind 60 rounds")
		}
		for _, p := range old {
			w.deliver(p)
		}
		w.round([]uint64{1, 2, 3}, group)
	}
}

// P15.6: a leader whom the others hear, but who hears none of them, isn't in their way.
func TestDeafLeader(t *testing.T) {
	w := calm(t, 3)
	group := among(3, 1, 2)
	for rounds := 0; w.leaderOf(group) < 0 || w.leaderOf(group) == 0; rounds++ {
		if rounds == 60 {
			t.Fatal("no leader behind 60 rounds")
		}
		w.tick(0, 0)
		for _, p := range w.nodes[0].Out() {
			w.deliver(p)
		}
		w.round([]uint64{1, 2, 3}, group)
	}
	if w.nodes[0].Leads() {
		t.Error("it leads still")
	}
}

// P2: the same calls, the same answers.
func TestSameAgain(t *testing.T) {
	for seed := range int64(5) {
		var runs [2]string
		for k := range runs {
			w := newWorld(t, 3, 1<<20, seed)
			w.noise(500, true)
			for i, n := range w.nodes {
				runs[k] += fmt.Sprint(stateOf(n), w.disks[i].Ops(), w.wire)
			}
		}
		if runs[0] != runs[1] {
			t.Errorf("seed %d: %s, then %s", seed, runs[0], runs[1])
		}
	}
}
