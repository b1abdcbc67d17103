package copy_test

import (
	"fmt"
	"math/rand"
	"slices"
	"testing"

	"fascine/api"
	"fascine/copy"
	"fascine/disk"
)

// The model: the chapter's words about the terms and the history, one by one, on values that are new each time.

type model struct {
	heard, served, adopted uint64
	l                      []api.Op
}

// entry: is it one? The tests hand in an empty ID, or one that is right.
func entry(o api.Op) bool { return o.Doc.ID != "" }

func (m model) hear(term uint64) (model, api.Errno) {
	if term < m.heard {
		return m, api.ErrState
	}
	m.heard = term
	return m, api.OK
}

func (m model) serve(term uint64) (model, api.Errno) {
	if term < m.heard || !(term > m.served) {
		return m, api.ErrState
	}
	m.heard, m.served, m.adopted = term, term, term
	return m, api.OK
}

func (m model) append(o api.Op) (model, api.Errno) {
	if !entry(o) {
		return m, api.ErrForm
	}
	if !(o.Term == m.heard && o.Term == m.adopted) {
		return m, api.ErrState
	}
	m.l = slices.Concat(m.l, []api.Op{o})
	return m, api.OK
}

func (m model) adopt(term uint64, l []api.Op) (model, api.Errno) {
	if term < m.heard {
		return m, api.ErrState
	}
	for _, o := range l {
		if !entry(o) {
			return m, api.ErrForm
		}
	}
	if m.adopted == term && !(len(l) > len(m.l)) {
		return m, api.OK
	}
	m.heard, m.adopted, m.l = term, term, slices.Clone(l)
	return m, api.OK
}

func (m model) state() state {
	return state{copy.Terms{Heard: m.heard, Served: m.served, Adopted: m.adopted}, len(m.l), fmt.Sprint(m.l)}
}

// call is one that is made at a copy and at the model.
type call struct {
	what string
	term uint64
	l    []api.Op // of an Append just one
}

func (v call) at(c *copy.Copy) api.Errno {
	switch v.what {
	case "Hear":
		return c.Hear(v.term)
	case "Serve":
		return c.Serve(v.term)
	case "Append":
		return c.Append(v.l[0])
	}
	return c.Adopt(v.term, v.l)
}

func (v call) model(m model) (model, api.Errno) {
	switch v.what {
	case "Hear":
		return m.hear(v.term)
	case "Serve":
		return m.serve(v.term)
	case "Append":
		return m.append(v.l[0])
	}
	return m.adopt(v.term, v.l)
}

// allCalls: each with small terms and short histories.
func allCalls() []call {
	var l []call
	for term := range uint64(3) {
		l = append(l, call{"Hear", term, nil}, call{"Serve", term, nil}, call{"Append", term, ops(term, "a")}, call{"Adopt", term, nil})
		for _, ids := range [][]string{{"a"}, {"b"}, {"a", "b"}, {"b", "a"}} {
			l = append(l, call{"Adopt", term, ops(term, ids...)})
		}
		l = append(l, call{"Append", term, ops(term, "")}, call{"Adopt", term, ops(term, "a", "")})
	}
	return append(l, call{"Adopt", 2, ops(1, "a", "b")})
}

// P16.3, P16.4: all that three calls in whatever order make of a copy, told by it and by what its disk has kept.
func TestAllThreeCalls(t *testing.T) {
	all := allCalls()
	for i := range len(all) * len(all) * len(all) {
		three := []call{all[i%len(all)], all[i/len(all)%len(all)], all[i/len(all)/len(all)]}
		d := newDisk(t, 1<<12)
		c := mustOpen(t, d, 0)
		var m model
		for _, v := range three {
			var e api.Errno
			m, e = v.model(m)
			if got := v.at(c); got != e || stateOf(c) != m.state() {
				t.Fatalf("%v: %d, %v, want %d, %v", three, got, stateOf(c), e, m.state())
			}
		}
		d.Restart(nil)
		if now := stateOf(mustOpen(t, d, 0)); now != m.state() {
			t.Fatalf("%v: behind a fall %v, want %v", three, now, m.state())
		}
	}
}

// stage is a copy that is told by chance, falls by chance, and is opened again, or goes on unopened.
type stage struct {
	t     *testing.T
	r     *rand.Rand
	d     *disk.Disk
	c     *copy.Copy // nil: the disk has no room to open it
	m     model
	maybe []model // what may be there instead, as the power went off in it, and nothing was kept since
	log   []string
}

// history: one by chance, often with the front of the one that there is.
func (s *stage) history() []api.Op {
	var l []api.Op
	if s.r.Intn(4) > 0 {
		l = slices.Clone(s.m.l[:s.r.Intn(len(s.m.l)+1)])
	}
	for range s.r.Intn(4) {
		id := []string{"a", "b", "c", "d", "e", "f", ""}[min(s.r.Intn(20), 6)]
		if s.r.Intn(4) > 0 {
			id = "abcdef"[:1+s.r.Intn(6)]
		}
		l = append(l, op(s.term(), id))
	}
	return l
}

// term: one by chance, near the one that was heard.
func (s *stage) term() uint64 {
	return uint64(max(0, int(s.m.heard)+[]int{-1, 0, 0, 0, 1, 2}[s.r.Intn(6)]))
}

func (s *stage) call() call {
	switch s.r.Intn(6) {
	case 0:
		return call{"Hear", s.term(), nil}
	case 1:
		return call{"Serve", s.term(), nil}
	case 2, 3:
		return call{"Append", 0, []api.Op{op(s.term(), "abcdef"[:s.r.Intn(7)])}}
	}
	return call{"Adopt", s.term(), s.history()}
}

func (s *stage) check() {
	if stateOf(s.c) != s.m.state() {
		s.t.Fatalf("%q: %v, want %v", s.log, stateOf(s.c), s.m.state())
	}
}

func (s *stage) step() {
	if s.r.Intn(6) == 0 {
		s.d.Arm(1 + s.r.Intn(4))
	}
	v := s.call()
	next, e := v.model(s.m)
	got := v.at(s.c)
	s.log = append(s.log, fmt.Sprint(v, " = ", got))
	switch got {
	case e:
		if next.state() != s.m.state() {
			s.maybe = nil
		}
		s.m = next
	case api.ErrFull:
	case api.ErrCrash:
		s.maybe = append(s.maybe, next)
	default:
		s.t.Fatalf("%q: want %d", s.log, e)
	}
	s.check()
	if got == api.ErrCrash || s.r.Intn(10) == 0 {
		s.fall()
	}
}

// fall: the power goes off and on, and mostly the copy is opened again: what was done is there, and what the power went off in as a whole or not at all.
func (s *stage) fall() {
	keep := []int{s.r.Intn(80) - 1, s.r.Intn(80) - 1}
	s.d.Restart(keep)
	s.log = append(s.log, fmt.Sprint("Restart ", keep))
	if s.r.Intn(4) == 0 {
		s.check()
		return
	}
	c, e := copy.Open(s.d, 0)
	s.c = c
	if e == api.ErrFull {
		// There is no room for the cut.
		return
	}
	if e != api.OK {
		s.t.Fatalf("%q: Open: %d", s.log, e)
	}
	for _, m := range append(s.maybe, s.m) {
		if m.state() == stateOf(c) {
			s.m = m
		}
	}
	s.maybe = nil
	s.check()
}

// P16.3, P16.4, P2
func TestAnyCallsAndFalls(t *testing.T) {
	full := 0
	for seed := range int64(3000) {
		r := rand.New(rand.NewSource(seed))
		d := newDisk(t, []int{300, 1000, 1 << 16}[r.Intn(3)])
		s := &stage{t: t, r: r, d: d, c: mustOpen(t, d, 0)}
		for range 40 {
			s.step()
			if s.c == nil {
				full++
				break
			}
		}
	}
	if full > 1500 {
		t.Errorf("%d of 3000 disks got full: little was tried", full)
	}
}

// P2: two copies that are told the same answer the same, and keep the same.
func TestTwoCopiesThatAreToldTheSame(t *testing.T) {
	for seed := range int64(300) {
		var out [2]string
		for i := range out {
			r := rand.New(rand.NewSource(seed))
			d := newDisk(t, []int{0, 200, 1 << 16}[r.Intn(3)])
			s := &stage{t: t, r: r, d: d, c: mustOpen(t, d, 0)}
			for range 30 {
				if s.step(); s.c == nil {
					break
				}
			}
			out[i] = fmt.Sprintf("%q %v %x", s.log, stateOf(s.c), fileOf(d, 0))
		}
		if out[0] != out[1] {
			t.Fatalf("seed %d: %s and %s", seed, out[0], out[1])
		}
	}
}
