package prim_test

import (
	"fmt"
	"math/rand"
	"slices"
	"testing"

	"fascine/api"
	"fascine/prim"
)

// The model keeps of each number of a few whether it is a peer and what is known of it, with the rev of each offer, and goes through all of them at each question.

// lowest and most: the numbers of which the model knows.
const (
	lowest = -2
	most   = 8
)

type known struct {
	peer, in, offered, adopted bool
	at                         uint64
	has                        int
}

type model struct {
	me  int
	rev uint64
	of  [most - lowest]known
}

func newModel(me int, rev uint64, in []int) *model {
	m := &model{me: me, rev: rev}
	for n := lowest; n < most; n++ {
		if n != me && slices.Contains(in, n) {
			m.of[n-lowest] = known{peer: true, in: true}
		}
	}
	return m
}

func (m *model) table(rev uint64, in []int) {
	if rev < m.rev {
		return
	}
	m.rev = rev
	for i := range m.of {
		k, is := &m.of[i], slices.Contains(in, i+lowest)
		switch {
		case i+lowest == m.me:
		case !k.peer && is:
			*k = known{peer: true, in: true}
		case k.peer && k.in && !is:
			*k = known{}
		case k.peer:
			k.in = is
			if is || k.at != rev {
				k.offered = false
			}
		}
	}
}

func (m *model) known(node int) *known {
	if node < lowest || node >= most {
		return &known{}
	}
	return &m.of[node-lowest]
}

func (m *model) join(node int) api.Errno {
	k := m.known(node)
	if node == m.me || node < 0 || node > 4 {
		return api.ErrArg
	}
	if k.peer {
		return api.ErrExists
	}
	k.peer = true
	return api.OK
}

func (m *model) told(node, n int) api.Errno {
	k := m.known(node)
	if !k.peer {
		return api.ErrNone
	}
	if n < 0 {
		return api.ErrArg
	}
	k.adopted = true
	if n > k.has {
		k.has = n
	}
	return api.OK
}

func (m *model) lost(node int) api.Errno {
	k := m.known(node)
	if !k.peer {
		return api.ErrNone
	}
	k.adopted = false
	return api.OK
}

// those: the numbers of which such is known.
func (m *model) those(such func(k *known) bool) []int {
	var l []int
	for i := range m.of {
		if such(&m.of[i]) {
			l = append(l, i+lowest)
		}
	}
	return l
}

func (m *model) peers() []int {
	return m.those(func(k *known) bool { return k.peer })
}

func (m *model) needs() []int {
	return m.those(func(k *known) bool { return k.in || k.offered })
}

func (m *model) offer(length int) []int {
	return m.those(func(k *known) bool {
		if k.in || !k.offered && (!k.adopted || k.has < length) {
			return false
		}
		k.offered, k.at = true, m.rev
		return true
	})
}

func (m *model) sure(length int) int {
	for n := length; n > 0; n-- {
		lacking := m.those(func(k *known) bool { return (k.in || k.offered) && (!k.adopted || k.has < n) })
		if len(lacking) == 0 {
			return n
		}
	}
	return 0
}

// step is something that both are told: it answers how they differ in what they answer.
type step struct {
	name string
	tell func(p *prim.Prim, m *model) string
}

func differ(got, want any) string {
	if fmt.Sprint(got) == fmt.Sprint(want) {
		return ""
	}
	return fmt.Sprintf("%v, want %v", got, want)
}

func table(rev uint64, in ...int) step {
	return step{fmt.Sprintf("Table(%d, %v)", rev, in), func(p *prim.Prim, m *model) string {
		p.Table(rev, in)
		m.table(rev, in)
		return ""
	}}
}

func joins(node int) step {
	return step{fmt.Sprintf("Join(%d)", node), func(p *prim.Prim, m *model) string {
		return differ(p.Join(node), m.join(node))
	}}
}

func tells(node, n int) step {
	return step{fmt.Sprintf("Has(%d, %d)", node, n), func(p *prim.Prim, m *model) string {
		return differ(p.Has(node, n), m.told(node, n))
	}}
}

func loses(node int) step {
	return step{fmt.Sprintf("Lost(%d)", node), func(p *prim.Prim, m *model) string {
		return differ(p.Lost(node), m.lost(node))
	}}
}

func offers(length int) step {
	return step{fmt.Sprintf("Offer(%d)", length), func(p *prim.Prim, m *model) string {
		return differ(p.Offer(length), m.offer(length))
	}}
}

// holdAll: all that can be asked.
func holdAll(t *testing.T, p *prim.Prim, m *model, steps []step) {
	t.Helper()
	differs := differ(p.Peers(), m.peers()) + differ(p.Needs(), m.needs())
	for n := lowest - 1; n <= most; n++ {
		has, adopted := p.Lacks(n)
		k := m.known(n)
		if has != k.has || adopted != k.adopted {
			differs += fmt.Sprintf(" Lacks(%d) = %d, %v, want %v", n, has, adopted, k)
		}
	}
	for n := -1; n < 6; n++ {
		if got, want := p.Sure(n), m.sure(n); got != want {
			differs += fmt.Sprintf(" Sure(%d) = %d, want %d", n, got, want)
		}
	}
	if differs != "" {
		t.Errorf("behind %s: %s", names(steps), differs)
	}
}

func names(steps []step) string {
	s := "New"
	for _, x := range steps {
		s += ", " + x.name
	}
	return s
}

// play: both from the beginning, all that can be asked at the end.
func play(t *testing.T, steps []step) {
	t.Helper()
	in := []int{1, 0}
	p, m := prim.New(0, 1, 1, in), newModel(0, 1, in)
	for i, x := range steps {
		if differs := x.tell(p, m); differs != "" {
			t.Errorf("behind %s: %s", names(steps[:i+1]), differs)
		}
	}
	holdAll(t, p, m, steps)
}

// Each row of up to so many steps, of a few.
func TestEachShortRow(t *testing.T) {
	all := []step{
		table(0, 2), table(1, 0, 1), table(1, 0, 2), table(1, 1, 2), table(2, 1), table(2, 2), table(3),
		joins(1), joins(2), tells(1, 2), tells(1, 1), tells(2, 2), tells(2, 1), tells(2, -1), loses(1), loses(2), offers(1), offers(2),
	}
	rows := 0
	var each func(steps []step, n int)
	each = func(steps []step, n int) {
		play(t, steps)
		rows++
		if n == 0 || t.Failed() {
			return
		}
		for _, x := range all {
			each(append(steps, x), n-1)
		}
	}
	each(nil, 4)
	if rows < 100000 {
		t.Errorf("%d rows", rows)
	}
}

func nodes(r *rand.Rand) []int {
	var l []int
	for range r.Intn(5) {
		l = append(l, r.Intn(5))
	}
	if r.Intn(8) == 0 {
		l = append(l, lowest+r.Intn(most-lowest))
	}
	return l
}

func byChance(r *rand.Rand, rev *uint64) step {
	node := r.Intn(5)
	if r.Intn(10) == 0 {
		node = lowest - 1 + r.Intn(most-lowest+2)
	}
	switch r.Intn(9) {
	case 0, 1:
		*rev += uint64(r.Intn(2))
		return table(*rev-min(*rev, uint64(r.Intn(20)/18)), nodes(r)...)
	case 2, 3:
		return joins(node)
	case 4, 5:
		return tells(node, r.Intn(7)-1)
	case 6:
		return loses(node)
	}
	return offers(r.Intn(7) - 1)
}

func TestRowsByChance(t *testing.T) {
	r := rand.New(rand.NewSource(19))
	for range 3000 {
		rev := uint64(r.Intn(3))
		in, me := nodes(r), r.Intn(5)
		p, m := prim.New(me, 1, rev, in), newModel(me, rev, in)
		var steps []step
		for range 60 {
			x := byChance(r, &rev)
			steps = append(steps, x)
			if differs := x.tell(p, m); differs != "" {
				t.Errorf("New(%d, 1, .., %v), behind %s: %s", me, in, names(steps), differs)
			}
			holdAll(t, p, m, steps)
			if t.Failed() {
				return
			}
		}
	}
}
