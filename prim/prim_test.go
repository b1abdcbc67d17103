package prim_test

import (
	"math"
	"slices"
	"testing"

	"fascine/api"
	"fascine/prim"
)

// The signatures that the chapter lists.
var (
	_ func(int, uint64, uint64, []int) *prim.Prim  = prim.New
	_ func(*prim.Prim) uint64                      = (*prim.Prim).Term
	_ func(*prim.Prim, uint64, []int)              = (*prim.Prim).Table
	_ func(*prim.Prim, int) api.Errno              = (*prim.Prim).Join
	_ func(p *prim.Prim, node, n int) api.Errno    = (*prim.Prim).Has
	_ func(*prim.Prim, int) api.Errno              = (*prim.Prim).Lost
	_ func(*prim.Prim) []int                       = (*prim.Prim).Peers
	_ func(p *prim.Prim, node int) (n int, a bool) = (*prim.Prim).Lacks
	_ func(*prim.Prim) []int                       = (*prim.Prim).Needs
	_ func(*prim.Prim, int) []int                  = (*prim.Prim).Offer
	_ func(*prim.Prim, int) int                    = (*prim.Prim).Sure
)

func newPrim(t *testing.T, me int, term, rev uint64, in ...int) *prim.Prim {
	t.Helper()
	p := prim.New(me, term, rev, in)
	if p == nil {
		t.Fatalf("New(%d, %d, %d, %v) = nil", me, term, rev, in)
	}
	return p
}

func want(t *testing.T, what string, got, e api.Errno) {
	t.Helper()
	if got != e {
		t.Errorf("%s: %d, want %d", what, got, e)
	}
}

// has: the peer tells that it has so many.
func has(t *testing.T, p *prim.Prim, node, n int) {
	t.Helper()
	want(t, "Has", p.Has(node, n), api.OK)
}

func join(t *testing.T, p *prim.Prim, nodes ...int) {
	t.Helper()
	for _, n := range nodes {
		want(t, "Join", p.Join(n), api.OK)
	}
}

func checkPeers(t *testing.T, p *prim.Prim, nodes ...int) {
	t.Helper()
	if l := p.Peers(); !slices.Equal(l, nodes) {
		t.Errorf("Peers = %v, want %v", l, nodes)
	}
}

func checkNeeds(t *testing.T, p *prim.Prim, nodes ...int) {
	t.Helper()
	if l := p.Needs(); !slices.Equal(l, nodes) {
		t.Errorf("Needs = %v, want %v", l, nodes)
	}
}

func checkLacks(t *testing.T, p *prim.Prim, node, n int, adopted bool) {
	t.Helper()
	if m, a := p.Lacks(node); m != n || a != adopted {
		t.Errorf("Lacks(%d) = %d, %v, want %d, %v", node, m, a, n, adopted)
	}
}

func checkOffer(t *testing.T, p *prim.Prim, length int, nodes ...int) {
	t.Helper()
	if l := p.Offer(length); !slices.Equal(l, nodes) {
		t.Errorf("Offer(%d) = %v, want %v", length, l, nodes)
	}
}

func checkSure(t *testing.T, p *prim.Prim, length, n int) {
	t.Helper()
	if m := p.Sure(length); m != n {
		t.Errorf("Sure(%d) = %d, want %d", length, m, n)
	}
}

// Example 1.
func TestExample(t *testing.T) {
	p := newPrim(t, 0, 1, 0, 0, 1)
	checkSure(t, p, 5, 0)
	has(t, p, 1, 3)
	checkSure(t, p, 5, 3)
	join(t, p, 2)
	has(t, p, 2, 5)
	checkSure(t, p, 5, 3)
	checkOffer(t, p, 5, 2)
	checkNeeds(t, p, 1, 2)
	p.Table(1, []int{0, 1})
	checkNeeds(t, p, 1)
}

// P19.1

func TestNew(t *testing.T) {
	for _, term := range []uint64{0, 1, 7, math.MaxUint64} {
		p := newPrim(t, 2, term, 9, 1, 2, 4)
		if p.Term() != term {
			t.Errorf("Term = %d, want %d", p.Term(), term)
		}
		checkPeers(t, p, 1, 4)
		checkNeeds(t, p, 1, 4)
		for node := range 5 {
			checkLacks(t, p, node, 0, false)
		}
		checkSure(t, p, 3, 0)
		checkOffer(t, p, 0)
	}
}

// In whatever order, one twice, me among them or not, and none at all.
func TestNewOfOtherLists(t *testing.T) {
	checkPeers(t, newPrim(t, 0, 1, 0, 4, 0, 3, 1, 3, 4), 1, 3, 4)
	checkNeeds(t, newPrim(t, 0, 1, 0, 4, 0, 3, 1, 3, 4), 1, 3, 4)
	checkPeers(t, newPrim(t, 3, 1, 0, 2, 1), 1, 2)
	checkPeers(t, newPrim(t, 3, 1, 0, 3, 3))
	for _, in := range [][]int{nil, {}, {3}} {
		p := newPrim(t, 3, 1, 0, in...)
		checkPeers(t, p)
		checkNeeds(t, p)
		checkOffer(t, p, 0)
		for _, n := range []int{0, 1, 5, math.MaxInt} {
			checkSure(t, p, n, n)
		}
		checkSure(t, p, -1, 0)
	}
	// Numbers of no node are peers as the others.
	p := newPrim(t, -1, 1, 0, math.MaxInt, 5, -1, -2, math.MinInt)
	checkPeers(t, p, math.MinInt, -2, 5, math.MaxInt)
	has(t, p, -2, 7)
	checkLacks(t, p, -2, 7, true)
	want(t, "Lost", p.Lost(5), api.OK)
	want(t, "Has(-1)", p.Has(-1, 7), api.ErrNone)
}

func TestTableOfAnEarlierRev(t *testing.T) {
	p := newPrim(t, 0, 1, 5, 0, 1)
	has(t, p, 1, 4)
	join(t, p, 2, 3)
	has(t, p, 2, 4)
	checkOffer(t, p, 4, 2)
	for _, rev := range []uint64{0, 1, 4} {
		p.Table(rev, []int{0, 3, 4})
		p.Table(rev, nil)
		checkPeers(t, p, 1, 2, 3)
		checkNeeds(t, p, 1, 2)
		checkSure(t, p, 9, 4)
	}
	// It hasn't become the last one by that, and neither does a later one become an earlier one.
	p.Table(9, []int{0, 1})
	p.Table(8, []int{0, 4})
	p.Table(5, []int{0, 4})
	checkPeers(t, p, 1, 2, 3)
	checkNeeds(t, p, 1)
	p.Table(9, []int{0, 4})
	checkPeers(t, p, 2, 3, 4)
	p.Table(math.MaxUint64, []int{1})
	checkPeers(t, p, 1, 2, 3)
	p.Table(math.MaxUint64-1, []int{4})
	checkPeers(t, p, 1, 2, 3)
	p.Table(math.MaxUint64, []int{4})
	checkPeers(t, p, 2, 3, 4)
}

// Those that come, those that go, those that stay, with what is known of them.
func TestTable(t *testing.T) {
	for _, rev := range []uint64{5, 6, 100} {
		p := newPrim(t, 0, 1, 5, 0, 1, 2)
		has(t, p, 1, 3)
		has(t, p, 2, 4)
		join(t, p, 3)
		has(t, p, 3, 2)
		p.Table(rev, []int{4, 0, 2, 4})
		checkPeers(t, p, 2, 3, 4)
		checkNeeds(t, p, 2, 4)
		checkLacks(t, p, 1, 0, false)
		checkLacks(t, p, 2, 4, true)
		checkLacks(t, p, 3, 2, true)
		checkLacks(t, p, 4, 0, false)
		checkSure(t, p, 9, 0)
		has(t, p, 4, 1)
		checkSure(t, p, 9, 1)
		want(t, "Has of one that is gone", p.Has(1, 3), api.ErrNone)
		// One that has gone comes without anything.
		p.Table(rev, []int{1, 2, 4})
		checkLacks(t, p, 1, 0, false)
		checkSure(t, p, 9, 0)
		// One that was to come is in, with what it has.
		p.Table(rev, []int{0, 3})
		checkPeers(t, p, 3)
		checkNeeds(t, p, 3)
		checkLacks(t, p, 3, 2, true)
		checkSure(t, p, 9, 2)
		p.Table(rev, nil)
		checkPeers(t, p)
		checkNeeds(t, p)
		checkSure(t, p, 9, 9)
	}
}

// An offer ends with another rev, and where it has come to its end; at the same rev it stands.
func TestTableEndsOffers(t *testing.T) {
	offered := func(rev uint64) *prim.Prim {
		p := newPrim(t, 0, 1, rev, 0, 1)
		has(t, p, 1, 6)
		join(t, p, 2, 3)
		has(t, p, 2, 5)
		has(t, p, 3, 4)
		checkOffer(t, p, 5, 2)
		checkNeeds(t, p, 1, 2)
		checkSure(t, p, 6, 5)
		return p
	}
	for _, rev := range []uint64{0, 5, math.MaxUint64 - 3} {
		// It wasn't done: another was.
		p := offered(rev)
		p.Table(rev+1, []int{0, 1})
		checkNeeds(t, p, 1)
		checkSure(t, p, 6, 6)
		checkPeers(t, p, 1, 2, 3)
		checkLacks(t, p, 2, 5, true)
		checkOffer(t, p, 6)
		checkOffer(t, p, 5, 2)
		// It is offered at this rev now.
		p.Table(rev+1, []int{0, 1})
		checkNeeds(t, p, 1, 2)
		p.Table(rev, []int{0, 1})
		checkNeeds(t, p, 1, 2)
		p.Table(rev+3, []int{0, 1})
		checkNeeds(t, p, 1)

		// It may still be done.
		p = offered(rev)
		p.Table(rev, []int{0, 1})
		checkNeeds(t, p, 1, 2)
		p.Table(rev, []int{0})
		checkNeeds(t, p, 2)
		checkSure(t, p, 6, 5)
		checkOffer(t, p, 6, 2)
		p.Table(rev, nil)
		checkNeeds(t, p, 2)

		// It was done: in, and offered no more, so that the table can take it out again.
		for _, done := range []uint64{rev, rev + 1} {
			p = offered(rev)
			p.Table(done, []int{0, 1, 2})
			checkNeeds(t, p, 1, 2)
			checkOffer(t, p, 6)
			p.Table(done, []int{0, 1})
			checkNeeds(t, p, 1)
			checkPeers(t, p, 1, 3)
		}
	}
}

// One that comes in otherwise than by an offer.
func TestTableTakesInWhatJoins(t *testing.T) {
	p := newPrim(t, 0, 1, 0, 0)
	join(t, p, 1)
	checkSure(t, p, 3, 3)
	p.Table(0, []int{0, 1})
	checkNeeds(t, p, 1)
	checkSure(t, p, 3, 0)
	want(t, "Join of one that is in", p.Join(1), api.ErrExists)
	p.Table(0, []int{0})
	checkPeers(t, p)
	join(t, p, 1)
	checkPeers(t, p, 1)
	checkNeeds(t, p)
}

// P19.2

func TestJoin(t *testing.T) {
	p := newPrim(t, 2, 1, 0, 2, 3)
	join(t, p, 4, 0, 1)
	checkPeers(t, p, 0, 1, 3, 4)
	checkNeeds(t, p, 3)
	for _, node := range []int{0, 1, 4} {
		checkLacks(t, p, node, 0, false)
		want(t, "Join again", p.Join(node), api.ErrExists)
	}
	want(t, "Join of one that is in", p.Join(3), api.ErrExists)
	for _, node := range []int{2, -1, 5, 6, math.MinInt, math.MaxInt} {
		want(t, "Join of no other node", p.Join(node), api.ErrArg)
	}
	// What is known of a peer stays.
	has(t, p, 4, 3)
	checkOffer(t, p, 3, 4)
	want(t, "Join of one that is offered", p.Join(4), api.ErrExists)
	checkLacks(t, p, 4, 3, true)
	checkNeeds(t, p, 3, 4)
	checkPeers(t, p, 0, 1, 3, 4)
	// ErrArg goes ahead, also of peers.
	p = newPrim(t, 9, 1, 0, 7, -1)
	for _, node := range []int{7, -1, 9} {
		want(t, "Join of no node", p.Join(node), api.ErrArg)
	}
	join(t, p, 0, 1, 2, 3, 4)
}

func TestHas(t *testing.T) {
	p := newPrim(t, 0, 1, 0, 0, 1)
	join(t, p, 2)
	for _, node := range []int{1, 2} {
		has(t, p, node, 0)
		checkLacks(t, p, node, 0, true)
		has(t, p, node, 5)
		checkLacks(t, p, node, 5, true)
		// What it told before may come later.
		for _, n := range []int{0, 4, 5} {
			has(t, p, node, n)
			checkLacks(t, p, node, 5, true)
		}
		has(t, p, node, 6)
		checkLacks(t, p, node, 6, true)
		for _, n := range []int{-1, -7, math.MinInt} {
			want(t, "Has of a number below 0", p.Has(node, n), api.ErrArg)
			checkLacks(t, p, node, 6, true)
		}
		has(t, p, node, math.MaxInt)
		checkLacks(t, p, node, math.MaxInt, true)
	}
	for _, node := range []int{0, 3, 4, 5, -1, math.MinInt, math.MaxInt} {
		for _, n := range []int{0, 3, -1, math.MinInt} {
			want(t, "Has of no peer", p.Has(node, n), api.ErrNone)
		}
		checkLacks(t, p, node, 0, false)
	}
	checkPeers(t, p, 1, 2)
	// A number below 0 isn't taken as word of having adopted.
	p = newPrim(t, 0, 1, 0, 0, 1)
	want(t, "Has(1, -1)", p.Has(1, -1), api.ErrArg)
	checkLacks(t, p, 1, 0, false)
}

func TestLost(t *testing.T) {
	p := newPrim(t, 0, 1, 0, 0, 1)
	join(t, p, 2, 3)
	has(t, p, 1, 5)
	has(t, p, 2, 5)
	checkOffer(t, p, 5, 2)
	checkSure(t, p, 5, 5)
	for _, node := range []int{1, 2, 3} {
		want(t, "Lost", p.Lost(node), api.OK)
		want(t, "Lost again", p.Lost(node), api.OK)
	}
	checkLacks(t, p, 1, 5, false)
	checkLacks(t, p, 2, 5, false)
	checkLacks(t, p, 3, 0, false)
	checkSure(t, p, 5, 0)
	// All else stays.
	checkPeers(t, p, 1, 2, 3)
	checkNeeds(t, p, 1, 2)
	checkOffer(t, p, 5, 2)
	has(t, p, 1, 2)
	checkLacks(t, p, 1, 5, true)
	checkSure(t, p, 5, 0)
	has(t, p, 2, 6)
	checkSure(t, p, 7, 5)
	for _, node := range []int{0, 4, 5, -1, math.MinInt, math.MaxInt} {
		want(t, "Lost of no peer", p.Lost(node), api.ErrNone)
	}
	// One that has lost it, and isn't offered, isn't offered from then on.
	want(t, "Lost", p.Lost(2), api.OK)
	p.Table(1, []int{0, 1})
	checkOffer(t, p, 0)
	has(t, p, 2, 0)
	checkOffer(t, p, 6, 2)
}

// P19.3

func TestOffer(t *testing.T) {
	p := newPrim(t, 0, 1, 0, 0, 1)
	checkOffer(t, p, 0)
	has(t, p, 1, 9)
	checkOffer(t, p, 0)
	join(t, p, 4, 3, 2)
	// None has adopted, whatever the length.
	for _, length := range []int{0, 1, -1, math.MinInt, math.MaxInt} {
		checkOffer(t, p, length)
	}
	has(t, p, 3, 5)
	has(t, p, 2, 4)
	checkOffer(t, p, 6)
	checkNeeds(t, p, 1)
	checkOffer(t, p, 5, 3)
	checkNeeds(t, p, 1, 3)
	// One that is offered is told again, however long the history has become.
	checkOffer(t, p, 100, 3)
	checkOffer(t, p, 4, 2, 3)
	checkOffer(t, p, math.MaxInt, 2, 3)
	checkNeeds(t, p, 1, 2, 3)
	has(t, p, 4, 0)
	checkOffer(t, p, 1, 2, 3)
	checkOffer(t, p, -1, 2, 3, 4)
	checkNeeds(t, p, 1, 2, 3, 4)
	checkSure(t, p, 9, 0)
}

func TestSure(t *testing.T) {
	p := newPrim(t, 0, 1, 0, 0, 1, 2, 3)
	has(t, p, 1, 7)
	has(t, p, 2, 5)
	for _, length := range []int{0, 1, 5, 7, 100, math.MaxInt, -1, math.MinInt} {
		checkSure(t, p, length, 0)
	}
	has(t, p, 3, 6)
	for length := range 5 {
		checkSure(t, p, length, length)
	}
	for _, length := range []int{5, 6, 7, 100, math.MaxInt} {
		checkSure(t, p, length, 5)
	}
	for _, length := range []int{-1, -5, math.MinInt} {
		checkSure(t, p, length, 0)
	}
	// One that isn't needed has no say; one that is offered has.
	join(t, p, 4)
	checkSure(t, p, 9, 5)
	has(t, p, 4, 3)
	checkSure(t, p, 9, 5)
	checkOffer(t, p, 3, 4)
	checkSure(t, p, 9, 3)
	p.Table(1, []int{0, 1, 3})
	checkSure(t, p, 9, 6)
	has(t, p, 1, 20)
	has(t, p, 3, 20)
	checkSure(t, p, 9, 9)
	// It has adopted, and has none yet.
	p.Table(2, []int{0, 1, 2, 3})
	has(t, p, 2, 0)
	checkSure(t, p, 9, 0)
}

// Asking changes nothing, but Offer.
func TestAskingChangesNothing(t *testing.T) {
	p := newPrim(t, 0, 3, 0, 0, 1)
	join(t, p, 2)
	has(t, p, 1, 3)
	has(t, p, 2, 3)
	for range 3 {
		checkPeers(t, p, 1, 2)
		checkNeeds(t, p, 1)
		checkLacks(t, p, 2, 3, true)
		checkLacks(t, p, 3, 0, false)
		checkSure(t, p, 3, 3)
		if p.Term() != 3 {
			t.Errorf("Term = %d", p.Term())
		}
	}
	p.Table(7, []int{0, 1})
	if p.Term() != 3 {
		t.Errorf("Term = %d", p.Term())
	}
}

// P1: many peers are gone through in a moment.
func TestMany(t *testing.T) {
	const many = 200000
	var in []int
	for i := range many {
		in = append(in, many-i)
	}
	p := newPrim(t, 0, 1, 0, in...)
	for i := range many {
		has(t, p, i+1, many+i)
	}
	checkSure(t, p, 2*many, many)
	slices.Reverse(in)
	checkPeers(t, p, in...)
	p.Table(1, in[:many/2])
	checkPeers(t, p, in[:many/2]...)
	checkNeeds(t, p, in[:many/2]...)
	p.Table(1, in)
	checkSure(t, p, 2*many, 0)
}

// P19.4

func TestNilPrim(t *testing.T) {
	var p *prim.Prim
	p.Table(0, []int{1})
	p.Table(math.MaxUint64, nil)
	if p.Term() != 0 {
		t.Errorf("Term = %d", p.Term())
	}
	for _, node := range []int{0, 1, -1, 5, math.MinInt, math.MaxInt} {
		want(t, "Join", p.Join(node), api.ErrNone)
		want(t, "Lost", p.Lost(node), api.ErrNone)
		for _, n := range []int{0, 1, -1, math.MinInt} {
			want(t, "Has", p.Has(node, n), api.ErrNone)
			checkSure(t, p, n, 0)
			checkOffer(t, p, n)
		}
		checkLacks(t, p, node, 0, false)
	}
	checkSure(t, p, math.MaxInt, 0)
	checkPeers(t, p)
	checkNeeds(t, p)
}

// The rules on memory

func TestArgumentsAreNotKept(t *testing.T) {
	room := []int{3, 0, 1, 4, 2}
	was := slices.Clone(room)
	p := newPrim(t, 0, 1, 0, room[:3]...)
	p = prim.New(0, 1, 0, room[:3])
	if !slices.Equal(room, was) {
		t.Errorf("%v, before it %v", room, was)
	}
	room[0] = 2
	checkPeers(t, p, 1, 3)
	copy(room, was)
	p.Table(1, room[:4])
	if !slices.Equal(room, was) {
		t.Errorf("%v, before it %v", room, was)
	}
	clear(room)
	checkPeers(t, p, 1, 3, 4)
	checkNeeds(t, p, 1, 3, 4)
}

func TestAnswersAreNewMemory(t *testing.T) {
	p := newPrim(t, 0, 1, 0, 0, 1, 2)
	join(t, p, 3, 4)
	has(t, p, 3, 5)
	has(t, p, 4, 5)
	checkOffer(t, p, 5, 3, 4)
	for _, ask := range []func() []int{p.Peers, p.Needs, func() []int { return p.Offer(5) }} {
		one, was := ask(), ask()
		l := one[:cap(one)]
		for i := range l {
			l[i] = -9
		}
		if two := ask(); !slices.Equal(two, was) {
			t.Errorf("%v, before it %v", two, was)
		}
		_ = append(was[:1], 8, 8, 8)
		checkPeers(t, p, 1, 2, 3, 4)
		checkNeeds(t, p, 1, 2, 3, 4)
		checkOffer(t, p, 5, 3, 4)
	}
}

// Two of them know nothing of each other.
func TestTwo(t *testing.T) {
	in := []int{0, 1}
	p, q := prim.New(0, 1, 0, in), prim.New(0, 2, 0, in)
	has(t, p, 1, 3)
	join(t, p, 2)
	checkLacks(t, q, 1, 0, false)
	checkPeers(t, q, 1)
	if p.Term() != 1 || q.Term() != 2 {
		t.Errorf("%d, %d", p.Term(), q.Term())
	}
}
