package wal_test

import (
	"bytes"
	"fmt"
	"math/rand"
	"slices"
	"testing"

	"fascine/api"
	"fascine/disk"
	"fascine/wal"
)

// stage is a log that falls again and again, and what may be there of it: the records that are durable, those that were appended behind them, and, behind a fall in a Set, those that were set.
type stage struct {
	t       *testing.T
	r       *rand.Rand
	d       *disk.Disk
	g       *wal.Log
	durable []string
	loose   []string
	set     []string
	inSet   bool
	log     []string
}

func (s *stage) record() string {
	return fmt.Sprint(len(s.log), "-")[:1] + string(bytes.Repeat([]byte{'r'}, s.r.Intn(30)))
}

func (s *stage) all() []string {
	return slices.Concat(s.durable, s.loose)
}

func (s *stage) say(what string, e api.Errno) {
	s.log = append(s.log, fmt.Sprintf("%s = %d", what, e))
}

func (s *stage) append() api.Errno {
	r := s.record()
	e := s.g.Append([]byte(r))
	s.say("Append "+r, e)
	// Behind a crash in it it may be there.
	if e == api.OK || e == api.ErrCrash {
		s.loose = append(s.loose, r)
	}
	return e
}

func (s *stage) sync() api.Errno {
	e := s.g.Sync()
	s.say("Sync", e)
	if e == api.OK {
		s.durable, s.loose = s.all(), nil
	}
	return e
}

func (s *stage) change() api.Errno {
	keep := s.r.Intn(len(s.all()) + 1)
	var more []string
	for range s.r.Intn(4) {
		more = append(more, s.record())
	}
	e := s.g.Set(keep, recordsOf(more...))
	s.say(fmt.Sprintf("Set %d %q", keep, more), e)
	after := append(s.all()[:keep:keep], more...)
	switch e {
	case api.OK:
		s.durable, s.loose = after, nil
	case api.ErrCrash:
		s.set, s.inSet = after, true
	}
	return e
}

// may: can these be the records behind a crash?
func (s *stage) may(got []string) bool {
	if s.inSet && slices.Equal(got, s.set) {
		return true
	}
	all := s.all()
	return len(got) >= len(s.durable) && len(got) <= len(all) && slices.Equal(got, all[:len(got)])
}

// fall: the power goes off and on, and the log is opened; in that it may fall again.
func (s *stage) fall() {
	keep := []int{s.r.Intn(60), s.r.Intn(60)}
	s.d.Restart(keep)
	s.d.Arm(s.r.Intn(5))
	g, e := wal.Open(s.d, "log")
	s.say(fmt.Sprintf("Restart %v, Open", keep), e)
	for e == api.ErrCrash {
		s.d.Restart(keep)
		g, e = wal.Open(s.d, "log")
		s.say("Restart, Open", e)
	}
	s.d.Arm(0)
	if e == api.ErrFull {
		// There is no room for the cut: the log can't be opened on this disk.
		s.g = nil
		return
	}
	got := told(s.t, g)
	if e != api.OK || !s.may(got) {
		s.t.Fatalf("%q: %q (%d), durable %q, behind them %q, set %v %q", s.log, got, e, s.durable, s.loose, s.inSet, s.set)
	}
	s.g, s.durable, s.loose, s.set, s.inSet = g, got, nil, nil, false
}

// check: the log tells what it was told, and its file is their frames.
func (s *stage) check() {
	if got := told(s.t, s.g); !slices.Equal(got, s.all()) {
		s.t.Fatalf("%q: %q, want %q", s.log, got, s.all())
	}
	p, e := s.d.Read("log")
	if string(p) != framed(s.all()...) || e != api.OK && e != api.ErrNone || s.d.Sure("log") < len(framed(s.durable...)) {
		s.t.Fatalf("%q: the file has %x (%d), Sure %d", s.log, p, e, s.d.Sure("log"))
	}
}

func (s *stage) step() {
	if s.r.Intn(4) == 0 {
		s.d.Arm(s.r.Intn(5))
	}
	e := []func() api.Errno{s.append, s.append, s.append, s.sync, s.change}[s.r.Intn(5)]()
	switch {
	case e == api.ErrCrash || s.r.Intn(12) == 0:
		s.fall()
	case e == api.OK || e == api.ErrFull:
		s.check()
	default:
		s.t.Fatalf("%q", s.log)
	}
}

// P4.3, P4.5: wherever the power goes off, and whatever is lost then, what was durable is there, and behind it nothing but what was appended next.
func TestWhatIsThereBehindACrash(t *testing.T) {
	full := 0
	for seed := range int64(4000) {
		r := rand.New(rand.NewSource(seed))
		s := &stage{t: t, r: r, d: newDisk(t, []int{100, 400, 100000}[r.Intn(3)])}
		s.g = open(t, s.d, "log")
		for range 40 {
			s.step()
			if s.g == nil {
				full++
				break
			}
		}
	}
	if full > 2000 {
		t.Errorf("%d of 4000 disks got full: little was tried", full)
	}
}

// P4.5: with each number of bytes that a Restart keeps, just the records whose frames are kept whole are there.
func TestEachNumberOfBytesKept(t *testing.T) {
	l := []string{"durable", "next", "", "the last one"}
	sure := len(framed(l[0]))
	for keep := -1; keep <= len(framed(l...))+1; keep++ {
		d := newDisk(t, 1000)
		g := open(t, d, "log")
		for i, s := range l {
			g.Append([]byte(s))
			if i == 0 {
				g.Sync()
			}
		}
		d.Restart([]int{keep})
		whole := 1
		for whole < len(l) && len(framed(l[:whole+1]...)) <= sure+keep {
			whole++
		}
		g = open(t, d, "log")
		wantLog(t, g, l[:whole]...)
		wantFile(t, d, "log", framed(l[:whole]...), len(framed(l[:whole]...)))
		d.Restart(nil)
		wantLog(t, open(t, d, "log"), l[:whole]...)
	}
}

// P1, P2: whatever is called in whatever order, all calls end, and two logs that are told the same answer the same.
func TestTwoLogsThatAreToldTheSame(t *testing.T) {
	names := []string{"log", "log.new", "", "b"}
	for seed := range int64(500) {
		var out [2]string
		for i := range out {
			r := rand.New(rand.NewSource(seed))
			d := newDisk(t, []int{0, 50, 1000}[r.Intn(3)])
			var g *wal.Log
			for range 60 {
				var e api.Errno
				switch r.Intn(8) {
				case 0:
					var fresh *wal.Log
					if fresh, e = wal.Open(d, names[r.Intn(len(names))]); fresh != nil {
						g = fresh
					}
				case 1:
					e = d.Restart([]int{r.Intn(30) - 1, r.Intn(30) - 1})
				case 2:
					e = d.Arm(r.Intn(9) - 1)
				case 3:
					e = g.Sync()
				case 4:
					e = g.Set(r.Intn(6)-1, [][]byte{make([]byte, r.Intn(9)), nil}[:r.Intn(3)])
				case 5:
					e = d.Append(names[r.Intn(len(names))], make([]byte, r.Intn(9)))
				default:
					e = g.Append(make([]byte, r.Intn(9)))
				}
				out[i] += fmt.Sprint(e, " ", state(t, d, g), "\n")
			}
		}
		if out[0] != out[1] {
			t.Fatalf("seed %d: %s and %s", seed, out[0], out[1])
		}
	}
}
