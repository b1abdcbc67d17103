package raft_test

import (
	"fmt"
	"slices"
	"testing"

	"fascine/api"
	"fascine/disk"
	"fascine/pack"
	"fascine/raft"
)

// The kinds of messages.
const (
	wouldYou byte = iota
	iWould
	electMe
	iElect
	addThese
	iHave
)

// fed is one node, and a test that says all that the others do.
type fed struct {
	t    *testing.T
	d    *disk.Disk
	n    *raft.Node
	me   int
	many int
}

func feed(t *testing.T, me, many int) *fed {
	t.Helper()
	d := newDisk(t, 1<<20)
	return &fed{t, d, mustOpen(t, d, me, many), me, many}
}

// say is a message, without the nodes between whom it goes.
type say struct {
	kind    byte
	numbers []uint64
}

func says(kind byte, numbers ...uint64) say {
	return say{kind, numbers}
}

// step: a message comes in; each term is an entry behind it, with its number in the log as its data.
func (f *fed) step(from int, s say, terms ...uint64) {
	f.t.Helper()
	p := message(s.kind, append([]uint64{uint64(from), uint64(f.me)}, s.numbers...)...)
	for k, term := range terms {
		p = append(p, pack.Uvarint(term)...)
		p = append(p, pack.Text(fmt.Sprint(term, ".", int(s.numbers[2])+k+1))...)
	}
	frame, _ := pack.Frame(p)
	if e := f.n.Step(from, frame); e != api.OK {
		f.t.Fatalf("Step(%d, %v) = %d", from, s, e)
	}
}

// add: a leader tells entries of these terms behind the number at, with the term there.
func (f *fed) add(from int, term, mark, at, atTerm, sure uint64, terms ...uint64) {
	f.t.Helper()
	f.step(from, says(addThese, term, mark, at, atTerm, sure, uint64(len(terms))), terms...)
}

func (f *fed) ticks(many int, draw uint64) {
	f.t.Helper()
	for range many {
		if e := f.n.Tick(draw); e != api.OK {
			f.t.Fatalf("Tick: %d", e)
		}
	}
}

// out: what it sends, by the node to which it is; without the entries.
func (f *fed) out() map[int][]say {
	f.t.Helper()
	l := map[int][]say{}
	for _, p := range f.n.Out() {
		payload, _, e := pack.ReadFrame(p.Data, 0)
		s := say{kind: payload[0]}
		counts := map[byte]int{wouldYou: 5, iWould: 4, electMe: 5, iElect: 4, addThese: 8, iHave: 6}
		for at := 1; at < len(payload) && len(s.numbers) < counts[s.kind]; {
			var v uint64
			v, at, e = pack.ReadUvarint(payload, at)
			s.numbers = append(s.numbers, v)
		}
		if e != api.OK || s.numbers[0] != uint64(f.me) || s.numbers[1] != uint64(p.To) {
			f.t.Fatalf("it sends %v", p)
		}
		s.numbers = s.numbers[2:]
		l[p.To] = append(l[p.To], s)
	}
	return l
}

func same(a, b say) bool {
	return a.kind == b.kind && slices.Equal(a.numbers, b.numbers)
}

// checkOut: it sends just these to that node, and nothing to the others.
func (f *fed) checkOut(to int, want ...say) {
	f.t.Helper()
	l := f.out()
	if !slices.EqualFunc(l[to], want, same) || len(want) == 0 && len(l) > 0 || len(want) > 0 && len(l) > 1 {
		f.t.Errorf("it sends %v, want %v to node %d", l, want, to)
	}
}

// checkAll: it sends just that to each other node.
func (f *fed) checkAll(want say) {
	f.t.Helper()
	l := f.out()
	for i := range f.many {
		if i != f.me && (len(l[i]) != 1 || !same(l[i][0], want)) {
			f.t.Errorf("it sends %v to node %d, want %v", l[i], i, want)
		}
	}
}

func (f *fed) check(term uint64, leader int, sure, many int) {
	f.t.Helper()
	n := f.n
	if n.Term() != term || n.Leader() != leader || n.Sure() != sure || n.Len() != many {
		f.t.Errorf("term %d, leader %d, %d of %d are sure, want %d, %d, %d of %d", n.Term(), n.Leader(), n.Sure(), n.Len(), term, leader, sure, many)
	}
	if n.Leads() != (leader == f.me) {
		f.t.Errorf("leads: %v", n.Leads())
	}
}

// checkTerms: the terms of its entries, also if it is opened again.
func (f *fed) checkTerms(want ...uint64) {
	f.t.Helper()
	for _, n := range []*raft.Node{f.n, mustOpen(f.t, f.d, f.me, f.many)} {
		var got []uint64
		for _, x := range entries(n) {
			got = append(got, x.term)
		}
		if !slices.Equal(got, want) {
			f.t.Errorf("entries of the terms %v, want %v", got, want)
		}
	}
}

// stand: it asks, and stands at the next tick, as all others would elect it.
func (f *fed) stand(seen uint64) {
	f.t.Helper()
	f.out()
	for range 20 {
		f.ticks(1, 0)
		if l := f.out(); len(l) > 0 {
			break
		}
	}
	for i := range f.many {
		if i != f.me {
			f.step(i, says(iWould, seen, 1))
		}
	}
	f.ticks(1, 9)
	f.out()
}

// lead: it leads in a term.
func (f *fed) lead(term uint64) {
	f.t.Helper()
	f.stand(term - 1)
	for i := range f.many {
		if i != f.me {
			f.step(i, says(iElect, term, 1))
		}
	}
	if !f.n.Leads() || f.n.Term() != term {
		f.t.Fatalf("leads: %v, in the term %d", f.n.Leads(), f.n.Term())
	}
	f.out()
}

// P15.5 (a): who says that they would elect it has not elected it, nor is anybody counted twice.
func TestVotesCounted(t *testing.T) {
	f := feed(t, 0, 5)
	f.ticks(5, 0)
	f.checkAll(says(wouldYou, 0, 0, 0))
	f.step(1, says(iWould, 0, 1))
	f.step(1, says(iWould, 0, 1))
	f.step(3, says(iWould, 0, 0))
	f.ticks(1, 9)
	f.check(0, -1, 0, 0)
	f.step(2, says(iWould, 0, 1))
	f.checkOut(0)
	f.ticks(1, 9)
	f.check(1, -1, 0, 0)
	f.checkAll(says(electMe, 1, 0, 0))
	f.step(3, says(iWould, 0, 1))
	f.step(4, says(iWould, 0, 1))
	f.step(1, says(iElect, 1, 1))
	f.step(1, says(iElect, 1, 1))
	f.step(3, says(iElect, 1, 0))
	f.check(1, -1, 0, 0)
	f.step(4, says(iElect, 1, 1))
	f.check(1, 0, 0, 1)
	f.checkAll(says(addThese, 1, 1, 0, 0, 0, 1))
	for nodes := 1; nodes <= api.MaxNodes; nodes++ {
		f := feed(t, 0, nodes)
		f.stand(0)
		for i := 1; i < nodes; i++ {
			if f.n.Leads() != (2*i > nodes) {
				t.Errorf("%d of %d have elected it, it leads: %v", i, nodes, f.n.Leads())
			}
			f.step(i, says(iElect, 1, 1))
		}
		if !f.n.Leads() {
			t.Errorf("all %d have elected it", nodes)
		}
	}
}

// P15.5 (a): what was said in an earlier term isn't counted.
func TestOldVotes(t *testing.T) {
	f := feed(t, 0, 3)
	f.stand(0)
	f.check(1, -1, 0, 0)
	f.step(2, says(iElect, 1, 0))
	f.stand(1)
	f.check(2, -1, 0, 0)
	f.step(1, says(iElect, 1, 1))
	f.check(2, -1, 0, 0)
	f.step(2, says(iElect, 2, 1))
	f.check(2, 0, 0, 1)
}

// P15.5 (a): one vote a term, whatever falls.
func TestOneVote(t *testing.T) {
	f := feed(t, 1, 3)
	f.step(0, says(electMe, 4, 0, 0))
	f.checkOut(0, says(iElect, 4, 1))
	f.check(4, -1, 0, 0)
	for range 2 {
		f.step(2, says(electMe, 4, 7, 3))
		f.checkOut(2, says(iElect, 4, 0))
		f.step(0, says(electMe, 4, 0, 0))
		f.checkOut(0, says(iElect, 4, 1))
		f.step(2, says(electMe, 3, 7, 2))
		f.checkOut(2, says(iElect, 4, 0))
		f.d.Restart(nil)
		f.n = mustOpen(t, f.d, 1, 3)
		f.check(4, -1, 0, 0)
	}
	f.step(2, says(electMe, 5, 0, 0))
	f.checkOut(2, says(iElect, 5, 1))
	f.step(0, says(electMe, 5, 9, 4))
	f.checkOut(0, says(iElect, 5, 0))
	f.check(5, -1, 0, 0)
	// Itself is one too.
	f = feed(t, 1, 3)
	f.stand(2)
	f.step(2, says(electMe, 3, 9, 2))
	f.checkOut(2, says(iElect, 3, 0))
	f.step(2, says(electMe, 4, 9, 3))
	f.checkOut(2, says(iElect, 4, 1))
	f.step(0, says(iElect, 3, 1))
	f.check(4, -1, 0, 0)
}

// P15.5 (f): who has less of the log isn't elected.
func TestLesserLogs(t *testing.T) {
	for _, x := range []struct {
		at, atTerm uint64
		yes        bool
	}{
		{0, 0, false}, {1, 1, false}, {9, 1, false}, {2, 2, false}, {3, 2, true}, {4, 2, true}, {1, 3, true}, {3, 3, true}, {9, 3, true},
	} {
		f := feed(t, 1, 3)
		f.add(0, 3, 1, 0, 0, 0, 1, 1, 2)
		f.ticks(5, 9)
		f.out()
		yes := uint64(0)
		if x.yes {
			yes = 1
		}
		f.step(2, says(wouldYou, 7, x.at, x.atTerm))
		f.checkOut(2, says(iWould, 3, yes))
		f.step(2, says(electMe, 4, x.at, x.atTerm))
		f.checkOut(2, says(iElect, 3+yes, yes))
		f.step(0, says(electMe, 4, 3, 2))
		f.checkOut(0, says(iElect, 4, 1-yes))
		f.checkTerms(1, 1, 2)
	}
}

// P15.6: who hears a leader helps nobody to become another one.
func TestContent(t *testing.T) {
	f := feed(t, 1, 3)
	f.add(0, 3, 1, 0, 0, 0)
	f.out()
	for range 5 {
		f.step(2, says(wouldYou, 9, 5, 3))
		f.checkOut(2, says(iWould, 3, 0))
		f.step(2, says(electMe, 9, 5, 3))
		f.checkOut(2, says(iElect, 3, 0))
		f.check(3, 0, 0, 0)
		f.ticks(1, 9)
	}
	f.step(2, says(wouldYou, 9, 5, 3))
	f.checkOut(2, says(iWould, 3, 1))
	f.check(3, 0, 0, 0)
	f.step(2, says(electMe, 9, 5, 3))
	f.checkOut(2, says(iElect, 9, 1))
	f.check(9, -1, 0, 0)
}

// P15.6: so does a leader, however late it was elected.
func TestLeaderContent(t *testing.T) {
	f := feed(t, 1, 3)
	f.stand(0)
	f.ticks(7, 9)
	f.step(0, says(iElect, 1, 1))
	f.check(1, 1, 0, 1)
	f.out()
	f.step(2, says(wouldYou, 9, 5, 3))
	f.checkOut(2, says(iWould, 1, 0))
	f.step(2, says(electMe, 9, 5, 3))
	f.checkOut(2, says(iElect, 1, 0))
	f.check(1, 1, 0, 1)
}

// waits: for how many ticks it sends nothing.
func (f *fed) waits(draw uint64) int {
	f.t.Helper()
	f.n.Out()
	for k := range 100 {
		f.ticks(1, draw)
		if len(f.n.Out()) > 0 {
			return k
		}
	}
	f.t.Fatal("it waits for ever")
	return 0
}

// P15.2: for how long it waits comes from the draw; P15.6: by its place modulo 10, so that no two go on together.
func TestWaits(t *testing.T) {
	var all []int
	for draw := range uint64(10) {
		k := feed(t, 0, 3).waits(draw)
		if slices.Contains(all, k) || k >= 20 {
			t.Errorf("with the draw %d it waits for %d ticks, the others for %v", draw, k, all)
		}
		all = append(all, k)
		for _, v := range []uint64{draw + 10, draw + 1000, 1<<64 - 6 - 10 + draw} {
			if got := feed(t, 0, 3).waits(v); got != k {
				t.Errorf("with the draw %d it waits for %d ticks, with %d for %d", v, got, draw, k)
			}
		}
		f := feed(t, 0, 3)
		for range 5 {
			if got := f.waits(draw); got != k {
				t.Errorf("with the draw %d it waits for %d ticks again, first for %d", draw, got, k)
			}
		}
	}
}

// P15.6: it waits anew behind what a leader tells, and behind a vote.
func TestWaitsAnew(t *testing.T) {
	f := feed(t, 1, 3)
	first := f.waits(9)
	anew := func(what string, do func()) {
		t.Helper()
		f = feed(t, 1, 3)
		f.add(0, 3, 1, 0, 0, 0)
		f.ticks(first-1, 9)
		do()
		if got := f.waits(9); got != first {
			t.Errorf("behind %s it waits for %d ticks, first for %d", what, got, first)
		}
	}
	anew("entries", func() { f.add(0, 3, 2, 0, 0, 0) })
	anew("a vote", func() { f.step(2, says(electMe, 4, 0, 0)) })
	anew("a vote in that term", func() { f.step(2, says(electMe, 3, 0, 0)) })
	anew("having stood", func() {
		f.ticks(2, 9)
		f.step(2, says(iWould, 3, 1))
		f.ticks(1, 9)
		if f.n.Term() != 4 {
			t.Errorf("term %d", f.n.Term())
		}
	})
	not := func(what string, do func()) {
		t.Helper()
		f = feed(t, 1, 3)
		f.add(0, 3, 5, 0, 0, 0, 2)
		f.ticks(first-1, 9)
		do()
		if got := f.waits(9); got != 1 {
			t.Errorf("behind %s it waits for %d ticks", what, got)
		}
	}
	not("nothing", func() {})
	not("old entries", func() { f.add(0, 3, 4, 0, 0, 0, 2) })
	not("the same again", func() { f.add(0, 3, 5, 0, 0, 0, 2) })
	not("an earlier leader", func() { f.add(2, 2, 9, 0, 0, 0) })
	not("a vote that it doesn't give", func() { f.step(2, says(electMe, 4, 0, 0)) })
	not("a question", func() { f.step(2, says(wouldYou, 4, 9, 4)) })
}

// P15.6: a leader that tells in time has nobody stand.
func TestLeaderInTime(t *testing.T) {
	f := feed(t, 1, 3)
	f.add(0, 3, 1, 0, 0, 0)
	f.ticks(20, 0)
	f.out()
	f.check(3, -1, 0, 0)
	f.step(2, says(iWould, 3, 1))
	f.add(0, 3, 2, 0, 0, 0)
	f.check(3, 0, 0, 0)
	f.ticks(4, 0)
	f.checkOut(0, says(iHave, 3, 2, 1, 0))
	f.check(3, 0, 0, 0)
	// Also if it stands.
	f.ticks(1, 0)
	f.step(2, says(iWould, 3, 1))
	f.ticks(1, 0)
	f.check(4, -1, 0, 0)
	f.add(0, 4, 1, 0, 0, 0)
	f.step(2, says(iElect, 4, 1))
	f.check(4, 0, 0, 0)
}

// P15.6: it stands in a term above those of all who answered, whether they would elect it or not.
func TestAboveAll(t *testing.T) {
	f := feed(t, 0, 5)
	f.ticks(5, 0)
	f.step(1, says(iWould, 0, 1))
	f.step(2, says(iWould, 7, 1))
	f.step(3, says(iWould, 20, 0))
	f.step(4, says(iWould, 3, 0))
	f.check(0, -1, 0, 0)
	f.ticks(1, 0)
	f.check(21, -1, 0, 0)
}

// P15.5 (c): what stands behind the entry that a leader names gives way, if it is another one, and nothing else does.
func TestFollow(t *testing.T) {
	f := feed(t, 1, 3)
	f.add(0, 2, 1, 0, 0, 0, 1, 2, 2, 2, 2)
	f.checkOut(0, says(iHave, 2, 1, 1, 5))
	f.checkTerms(1, 2, 2, 2, 2)
	f.check(2, 0, 0, 5)
	// A part of it again: nothing is cut, and no more is told than was asked.
	f.add(0, 2, 2, 0, 0, 2, 1, 2, 2)
	f.checkOut(0, says(iHave, 2, 2, 1, 3))
	f.add(0, 2, 1, 1, 1, 1)
	f.checkOut(0, says(iHave, 2, 1, 1, 1))
	f.checkTerms(1, 2, 2, 2, 2)
	f.check(2, 0, 2, 5)
	// An earlier leader is told the term.
	f.add(2, 1, 9, 0, 0, 0, 1, 1)
	f.checkOut(2, says(iHave, 2, 9, 0, 0))
	f.check(2, 0, 2, 5)
	// Entries behind one that it hasn't: as many as it has; or those ahead of the term that is another one, but those that are sure.
	f.add(2, 4, 1, 9, 4, 0, 4)
	f.checkOut(2, says(iHave, 4, 1, 0, 5))
	f.check(4, 2, 2, 5)
	f.add(2, 4, 2, 6, 3, 0, 4)
	f.checkOut(2, says(iHave, 4, 2, 0, 5))
	f.add(2, 4, 3, 5, 3, 0, 4)
	f.checkOut(2, says(iHave, 4, 3, 0, 2))
	f.checkTerms(1, 2, 2, 2, 2)
	f.add(2, 4, 4, 2, 2, 0, 2, 3, 3)
	f.checkOut(2, says(iHave, 4, 4, 1, 5))
	f.checkTerms(1, 2, 2, 3, 3)
	f.add(2, 4, 5, 5, 3, 5, 4)
	f.checkOut(2, says(iHave, 4, 5, 1, 6))
	f.checkTerms(1, 2, 2, 3, 3, 4)
	f.check(4, 2, 5, 6)
	for k := range 6 {
		if p, term, _ := f.n.Entry(k + 1); string(p) != fmt.Sprint(term, ".", k+1) {
			t.Errorf("number %d is %q", k+1, p)
		}
	}
	// The other ones are those of one term each.
	f = feed(t, 1, 3)
	f.add(0, 3, 1, 0, 0, 0, 1, 2, 2, 2, 3)
	f.out()
	f.add(2, 5, 1, 4, 4, 0)
	f.checkOut(2, says(iHave, 5, 1, 0, 1))
	f.add(2, 5, 2, 1, 4, 0)
	f.checkOut(2, says(iHave, 5, 2, 0, 0))
	f.add(2, 5, 3, 0, 0, 0, 5)
	f.checkOut(2, says(iHave, 5, 3, 1, 1))
	f.checkTerms(5)
}

// P15.5 (b), (f): what others have in this term is counted, and what was said in an earlier one isn't.
func TestCounted(t *testing.T) {
	f := feed(t, 0, 5)
	f.lead(2)
	for range 9 {
		if e := f.n.Propose([]byte("x")); e != api.OK {
			t.Fatalf("Propose: %d", e)
		}
	}
	f.out()
	f.check(2, 0, 0, 10)
	f.step(1, says(iHave, 2, 1, 1, 7))
	f.check(2, 0, 0, 10)
	f.step(1, says(iHave, 2, 1, 1, 9))
	f.step(2, says(iHave, 2, 1, 0, 8))
	f.step(2, says(iHave, 1, 1, 1, 8))
	f.step(2, says(iHave, 2, 1, 1, 11))
	f.check(2, 0, 0, 10)
	f.step(2, says(iHave, 2, 1, 1, 4))
	f.check(2, 0, 4, 10)
	f.step(1, says(iHave, 2, 1, 1, 1))
	f.check(2, 0, 4, 10)
	f.step(3, says(iHave, 2, 1, 1, 8))
	f.check(2, 0, 8, 10)
	f.step(4, says(iHave, 2, 1, 1, 10))
	f.check(2, 0, 9, 10)
	// Another term: what it added in the earlier one is sure only with its own behind it.
	f.step(4, says(iHave, 5, 9, 0, 0))
	f.check(5, -1, 9, 10)
	f.step(3, says(iHave, 5, 9, 1, 10))
	f.lead(6)
	f.check(6, 0, 9, 11)
	f.step(1, says(iHave, 2, 99, 1, 10))
	f.step(2, says(iHave, 2, 99, 1, 10))
	f.step(1, says(iHave, 5, 99, 1, 11))
	f.step(2, says(iHave, 5, 99, 1, 11))
	f.check(6, 0, 9, 11)
	f.step(1, says(iHave, 6, 99, 1, 10))
	f.step(2, says(iHave, 6, 99, 1, 10))
	f.check(6, 0, 9, 11)
	f.step(3, says(iHave, 6, 99, 1, 11))
	f.step(1, says(iHave, 6, 99, 1, 11))
	f.check(6, 0, 11, 11)
}

// P15.5 (b): what most have is sure.
func TestMostHave(t *testing.T) {
	for nodes := 2; nodes <= api.MaxNodes; nodes++ {
		f := feed(t, 0, nodes)
		f.lead(1)
		for i := 1; i < nodes; i++ {
			if (f.n.Sure() == 1) != (2*i > nodes) {
				t.Errorf("%d of %d have it, %d are sure", i, nodes, f.n.Sure())
			}
			f.step(i, says(iHave, 1, 1, 1, 1))
		}
	}
}

// P15.6: what another node hasn't is told to it, some at a time, as soon as it answers.
func TestTold(t *testing.T) {
	f := feed(t, 0, 3)
	f.lead(1)
	for range 119 {
		f.n.Propose(make([]byte, api.MaxData))
	}
	f.checkOut(0)
	f.step(1, says(iHave, 1, 1, 1, 1))
	f.checkOut(1, says(addThese, 1, 2, 1, 1, 1, 50))
	f.step(1, says(iHave, 1, 2, 1, 51))
	f.checkOut(1, says(addThese, 1, 3, 51, 1, 51, 50))
	f.step(1, says(iHave, 1, 2, 1, 51))
	f.checkOut(0)
	f.step(1, says(iHave, 1, 3, 1, 101))
	f.checkOut(1, says(addThese, 1, 4, 101, 1, 101, 19))
	f.step(1, says(iHave, 1, 4, 1, 120))
	f.check(1, 0, 120, 120)
	f.checkOut(1, says(addThese, 1, 5, 120, 1, 120, 0))
	f.step(1, says(iHave, 1, 5, 1, 120))
	f.checkOut(0)
	// One that has nothing of it: no more is told to be sure than is told.
	f.step(2, says(iHave, 1, 1, 0, 0))
	f.checkOut(2, says(addThese, 1, 2, 0, 0, 50, 50))
	f.ticks(1, 0)
	l := f.out()
	if len(l[1]) != 1 || !same(l[1][0], says(addThese, 1, 6, 120, 1, 120, 0)) || len(l[2]) != 1 || !same(l[2][0], says(addThese, 1, 3, 0, 0, 50, 50)) {
		t.Errorf("it sends %v", l)
	}
	// An answer that comes late doesn't say that the last one was heard.
	f.step(2, says(iHave, 1, 2, 0, 0))
	f.checkOut(0)
	f.step(2, says(iHave, 1, 3, 0, 0))
	f.checkOut(2, says(addThese, 1, 4, 0, 0, 50, 50))
	f.step(2, says(iHave, 1, 4, 1, 50))
	f.checkOut(2, says(addThese, 1, 5, 50, 1, 100, 50))
	f.step(2, says(iHave, 1, 4, 1, 50))
	f.checkOut(0)
}

// P15.6: a leader doesn't go on without most of the others, whatever old answers come in.
func TestLeadsWithMost(t *testing.T) {
	for nodes := 2; nodes <= api.MaxNodes; nodes++ {
		for near := 1; near <= nodes; near++ {
			f := feed(t, 0, nodes)
			f.lead(1)
			mark := uint64(100)
			for range 20 {
				f.ticks(1, 0)
				mark++
				for i := 1; i < nodes; i++ {
					if i < near {
						f.step(i, says(iHave, f.n.Term(), mark, 1, 0))
					} else {
						f.step(i, says(iHave, f.n.Term(), 1, 1, 0))
					}
				}
			}
			if f.n.Leads() != (2*near > nodes) || f.n.Term() != 1 {
				t.Errorf("%d of %d are near, it leads: %v, in the term %d", near, nodes, f.n.Leads(), f.n.Term())
			}
		}
	}
}

// P15.6: in quiet rounds a leader tells, the others answer, and nobody does more.
func TestQuietPackets(t *testing.T) {
	w := calm(t, 5)
	draws := []uint64{9, 8, 7, 6, 0}
	for range 30 {
		for i := range w.nodes {
			w.tick(i, draws[i])
		}
		many := 0
		for w.gather(); len(w.wire) > 0; w.gather() {
			w.deliver(w.take(0))
			many++
		}
		if many != 8 {
			t.Fatalf("%d packets in a round", many)
		}
	}
}

// P15.6: as packets are handed over, all follow, and what is proposed is sure everywhere, without a tick; and a node that was away is told what it hasn't, no more.
func TestAtOnce(t *testing.T) {
	w := newWorld(t, 3, 1<<20, 1)
	draws := []uint64{0, 8, 9}
	for !w.nodes[0].Leads() {
		w.round(draws, allOf(3))
	}
	if w.leaderOf(allOf(3)) != 0 {
		t.Error("not all follow")
	}
	for k := range 600 {
		w.propose(0, fmt.Sprint("p", k))
		w.settle(allOf(3))
		for i, n := range w.nodes {
			if n.Sure() != k+2 {
				t.Fatalf("node %d: %d of %d are sure", i, n.Sure(), k+2)
			}
		}
	}
	for k := range 3 {
		w.propose(0, fmt.Sprint("lost", k))
	}
	w.gather()
	w.wire = nil
	w.elect(1, among(3, 1, 2))
	w.tick(1, 0)
	many := 0
	for w.gather(); len(w.wire) > 0; w.gather() {
		w.deliver(w.take(0))
		many++
	}
	if many > 20 || w.nodes[0].Sure() != 602 || w.nodes[0].Len() != 602 {
		t.Errorf("%d packets, node 0 has %d of %d", many, w.nodes[0].Sure(), w.nodes[0].Len())
	}
}
