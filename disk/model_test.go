package disk_test

import (
	"fmt"
	"math"
	"math/rand"
	"slices"
	"sort"
	"testing"

	"fascine/api"
	"fascine/disk"
)

// cell is a byte of a file of the model.
type cell struct {
	b       byte
	durable bool
}

type sheet struct {
	name  string
	cells []cell
}

// model is the chapter said once more, plainly: what a disk is held against.
type model struct {
	room, ops, fuse int
	off             bool
	sheets          []sheet
}

func (m *model) find(name string) int {
	return slices.IndexFunc(m.sheets, func(s sheet) bool { return s.name == name })
}

func (m *model) used() int {
	n := 0
	for _, s := range m.sheets {
		n += len(s.cells)
	}
	return n
}

func (m *model) sure(name string) int {
	n := 0
	if i := m.find(name); i >= 0 {
		for _, c := range m.sheets[i].cells {
			if c.durable {
				n++
			}
		}
	}
	return n
}

func (m *model) names() []string {
	var l []string
	for _, s := range m.sheets {
		l = append(l, s.name)
	}
	sort.Strings(l)
	return l
}

// goesOff: an operation is begun; does the power go off in it?
func (m *model) goesOff() bool {
	m.ops++
	m.fuse--
	m.off = m.fuse == 0
	return m.off
}

func (m *model) write(name string, p []byte, fresh bool) api.Errno {
	i := m.find(name)
	switch {
	case !disk.Name(name):
		return api.ErrArg
	case m.off:
		return api.ErrCrash
	case fresh && i >= 0:
		return api.ErrExists
	case m.used()+len(p) > m.room:
		return api.ErrFull
	}
	if i < 0 {
		i = len(m.sheets)
		m.sheets = append(m.sheets, sheet{name: name})
	}
	for _, b := range p {
		m.sheets[i].cells = append(m.sheets[i].cells, cell{b: b})
	}
	if m.goesOff() {
		return api.ErrCrash
	}
	return api.OK
}

func (m *model) alter(kind, name, to string) api.Errno {
	i := m.find(name)
	rename := kind == "Rename"
	switch {
	case !disk.Name(name) || rename && (!disk.Name(to) || name == to):
		return api.ErrArg
	case m.off:
		return api.ErrCrash
	case i < 0:
		return api.ErrNone
	case rename && m.sure(name) < len(m.sheets[i].cells):
		return api.ErrState
	case m.goesOff():
		return api.ErrCrash
	}
	switch kind {
	case "Sync":
		for j := range m.sheets[i].cells {
			m.sheets[i].cells[j].durable = true
		}
	case "Remove":
		m.sheets = slices.Delete(m.sheets, i, i+1)
	case "Rename":
		m.sheets = slices.DeleteFunc(m.sheets, func(s sheet) bool { return s.name == to })
		m.sheets[m.find(name)].name = to
	}
	return api.OK
}

func (m *model) read(name string) ([]byte, api.Errno) {
	i := m.find(name)
	switch {
	case !disk.Name(name):
		return nil, api.ErrArg
	case m.off:
		return nil, api.ErrCrash
	case i < 0:
		return nil, api.ErrNone
	}
	var p []byte
	for _, c := range m.sheets[i].cells {
		p = append(p, c.b)
	}
	return p, api.OK
}

func (m *model) restart(keep []int) {
	for i, name := range m.names() {
		s := &m.sheets[m.find(name)]
		var left []cell
		loose := 0
		for _, c := range s.cells {
			if !c.durable {
				loose++
			}
			if c.durable || i < len(keep) && loose <= keep[i] {
				left = append(left, cell{c.b, true})
			}
		}
		s.cells = left
	}
	m.fuse, m.off = 0, false
}

// stage is the same calls made at a disk, at another one, and at the model.
type stage struct {
	t    *testing.T
	r    *rand.Rand
	d, o *disk.Disk
	m    *model
	log  []string
}

func (s *stage) name() string {
	return []string{"a", "b", "c", "a.new", "shard-1", "", "B"}[s.r.Intn(7)]
}

func (s *stage) bytes() []byte {
	p := make([]byte, s.r.Intn(12))
	s.r.Read(p)
	return p
}

func (s *stage) keep() []int {
	keep := make([]int, s.r.Intn(6))
	for i := range keep {
		keep[i] = []int{-1, 0, 1, 2, 5, 9, 100, math.MaxInt, math.MinInt}[s.r.Intn(9)]
	}
	return keep
}

func (s *stage) step() {
	name, to, p, n, keep := s.name(), s.name(), s.bytes(), s.r.Intn(9)-1, s.keep()
	var got, again, e api.Errno
	kind := []string{"Append", "Append", "Append", "Put", "Sync", "Sync", "Remove", "Rename", "Rename", "Arm", "Restart"}[s.r.Intn(11)]
	switch kind {
	case "Append":
		got, again, e = s.d.Append(name, p), s.o.Append(name, p), s.m.write(name, p, false)
	case "Put":
		got, again, e = s.d.Put(name, p), s.o.Put(name, p), s.m.write(name, p, true)
	case "Sync":
		got, again, e = s.d.Sync(name), s.o.Sync(name), s.m.alter(kind, name, "")
	case "Remove":
		got, again, e = s.d.Remove(name), s.o.Remove(name), s.m.alter(kind, name, "")
	case "Rename":
		got, again, e = s.d.Rename(name, to), s.o.Rename(name, to), s.m.alter(kind, name, to)
	case "Arm":
		got, again, e = s.d.Arm(n), s.o.Arm(n), api.ErrArg
		if n >= 0 {
			s.m.fuse, e = n, api.OK
		}
	case "Restart":
		got, again = s.d.Restart(keep), s.o.Restart(keep)
		s.m.restart(keep)
	}
	s.log = append(s.log, fmt.Sprintf("%s(%q, %q, %x, %d, %v) = %d", kind, name, to, p, n, keep, got))
	if got != e || again != e {
		s.t.Fatalf("%q: %d and %d, want %d", s.log, got, again, e)
	}
}

func (s *stage) compare() {
	m := s.m
	for _, d := range []*disk.Disk{s.d, s.o} {
		if !slices.Equal(d.Names(), m.names()) || d.Ops() != m.ops || d.On() == m.off || d.Used() != m.used() {
			s.t.Fatalf("%q: %q %d %v %d, want %q %d %v %d", s.log, d.Names(), d.Ops(), d.On(), d.Used(), m.names(), m.ops, !m.off, m.used())
		}
		for _, name := range append(m.names(), "none", "") {
			p, e := d.Read(name)
			wantP, wantE := m.read(name)
			if !slices.Equal(p, wantP) || e != wantE || d.Sure(name) != m.sure(name) {
				s.t.Fatalf("%q: Read(%q) = %x, %d, Sure %d, want %x, %d, %d", s.log, name, p, e, d.Sure(name), wantP, wantE, m.sure(name))
			}
		}
	}
}

// P1, P2, P2.1 to P2.5: whatever is called in whatever order, a disk answers as the chapter says, and another one that was told the same answers the same.
func TestAnyCallsAreAnsweredAsTheChapterSays(t *testing.T) {
	for seed := range int64(3000) {
		r := rand.New(rand.NewSource(seed))
		room := []int{0, 1, 10, 40, 1000}[r.Intn(5)]
		s := &stage{t: t, r: r, d: newDisk(t, room), o: newDisk(t, room), m: &model{room: room}}
		for range 60 {
			s.step()
			s.compare()
		}
	}
}
