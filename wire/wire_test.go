package wire_test

import (
	"fmt"
	"math"
	"math/rand"
	"slices"
	"testing"

	"fascine/api"
	"fascine/wire"
)

// The signatures that the chapter lists.
var (
	_ func() *wire.Net                             = wire.New
	_ func(*wire.Net, api.Packet)                  = (*wire.Net).Send
	_ func(*wire.Net) int                          = (*wire.Net).Len
	_ func(*wire.Net, int) (api.Packet, api.Errno) = (*wire.Net).At
	_ func(*wire.Net, int) (api.Packet, api.Errno) = (*wire.Net).Take
	_ func(*wire.Net, int) api.Errno               = (*wire.Net).Copy
)

func packet(from, to int, data string) api.Packet {
	return api.Packet{From: from, To: to, Data: []byte(data)}
}

func text(p api.Packet) string {
	return fmt.Sprintf("%d>%d:%s", p.From, p.To, p.Data)
}

// told: all packets that a network tells.
func told(t *testing.T, n *wire.Net) []string {
	t.Helper()
	var l []string
	for i := range n.Len() {
		p, e := n.At(i)
		if e != api.OK {
			t.Errorf("At(%d) of %d: %d", i, n.Len(), e)
		}
		l = append(l, text(p))
	}
	return l
}

func wantList(t *testing.T, n *wire.Net, l ...string) {
	t.Helper()
	if got := told(t, n); !slices.Equal(got, l) {
		t.Errorf("the packets are %q, want %q", got, l)
	}
}

// wantNothing: no call finds a packet of that number, and nothing has changed.
func wantNothing(t *testing.T, n *wire.Net, i int) {
	t.Helper()
	before := told(t, n)
	for what, call := range map[string]func(int) (api.Packet, api.Errno){"At": n.At, "Take": n.Take} {
		if p, e := call(i); p.From != 0 || p.To != 0 || len(p.Data) != 0 || e != api.ErrNone {
			t.Errorf("%s(%d) = %s, %d", what, i, text(p), e)
		}
	}
	if e := n.Copy(i); e != api.ErrNone {
		t.Errorf("Copy(%d) = %d", i, e)
	}
	if now := told(t, n); !slices.Equal(now, before) {
		t.Errorf("number %d: %q, before it %q", i, now, before)
	}
}

func three() *wire.Net {
	n := wire.New()
	n.Send(packet(0, 1, "a"))
	n.Send(packet(1, 2, "b"))
	n.Send(packet(2, 0, "c"))
	return n
}

// P3.1

func TestNew(t *testing.T) {
	n := wire.New()
	if n == nil || n.Len() != 0 {
		t.Fatalf("New has %d packets", n.Len())
	}
	wantNothing(t, n, 0)
	wire.New().Send(packet(1, 2, "x"))
	wantList(t, n)
}

func TestSendStandsBehindTheOthers(t *testing.T) {
	n := three()
	wantList(t, n, "0>1:a", "1>2:b", "2>0:c")
	n.Send(packet(0, 1, "a"))
	n.Send(api.Packet{})
	n.Send(packet(-7, math.MaxInt, ""))
	wantList(t, n, "0>1:a", "1>2:b", "2>0:c", "0>1:a", "0>0:", fmt.Sprintf("-7>%d:", math.MaxInt))
}

func TestAtLeavesTheList(t *testing.T) {
	n := three()
	for range 2 {
		for i, s := range []string{"0>1:a", "1>2:b", "2>0:c"} {
			if p, e := n.At(i); text(p) != s || e != api.OK || n.Len() != 3 {
				t.Errorf("At(%d) = %s, %d", i, text(p), e)
			}
		}
	}
}

func TestTakeKeepsTheOrderOfTheOthers(t *testing.T) {
	for i, left := range [][]string{{"1>2:b", "2>0:c"}, {"0>1:a", "2>0:c"}, {"0>1:a", "1>2:b"}} {
		n := three()
		is, _ := n.At(i)
		if p, e := n.Take(i); text(p) != text(is) || e != api.OK {
			t.Errorf("Take(%d) = %s, %d, want %s", i, text(p), e, text(is))
		}
		wantList(t, n, left...)
		n.Send(packet(4, 4, "d"))
		wantList(t, n, append(left, "4>4:d")...)
	}
}

func TestTakeOfAll(t *testing.T) {
	n := three()
	for _, s := range []string{"2>0:c", "1>2:b", "0>1:a"} {
		if p, e := n.Take(n.Len() - 1); text(p) != s || e != api.OK {
			t.Errorf("Take = %s, %d, want %s", text(p), e, s)
		}
	}
	wantList(t, n)
	wantNothing(t, n, 0)
	n.Send(packet(3, 4, "e"))
	wantList(t, n, "3>4:e")
}

func TestCopyStandsBehindTheOthers(t *testing.T) {
	for i, s := range []string{"0>1:a", "1>2:b", "2>0:c"} {
		n := three()
		for range 2 {
			if e := n.Copy(i); e != api.OK {
				t.Errorf("Copy(%d) = %d", i, e)
			}
		}
		wantList(t, n, "0>1:a", "1>2:b", "2>0:c", s, s)
	}
}

func TestNoSuchPacket(t *testing.T) {
	n := three()
	for _, i := range []int{-1, 3, 4, math.MinInt, math.MaxInt} {
		wantNothing(t, n, i)
	}
	n.Take(0)
	wantNothing(t, n, 2)
	wantNothing(t, n, -1)
}

func TestExample(t *testing.T) {
	n := wire.New()
	n.Send(packet(0, 0, "a"))
	n.Send(packet(0, 0, "b"))
	if e := n.Copy(0); e != api.OK {
		t.Errorf("Copy = %d", e)
	}
	if p, e := n.Take(0); text(p) != "0>0:a" || e != api.OK {
		t.Errorf("Take = %s, %d", text(p), e)
	}
	wantList(t, n, "0>0:b", "0>0:a")
}

func TestNilNet(t *testing.T) {
	var n *wire.Net
	n.Send(packet(0, 1, "a"))
	if n.Len() != 0 {
		t.Errorf("a nil network has %d packets", n.Len())
	}
	for _, i := range []int{-1, 0, 1, math.MinInt, math.MaxInt} {
		wantNothing(t, n, i)
	}
}

// The rule on memory

func TestArgumentsAreNeitherChangedNorKept(t *testing.T) {
	n := wire.New()
	room := []byte("abc...")
	p := api.Packet{From: 1, To: 2, Data: room[:3]}
	n.Send(p)
	n.Copy(0)
	n.Take(0)
	if string(room) != "abc..." || text(p) != "1>2:abc" {
		t.Errorf("what was sent was changed: %q, %s", room, text(p))
	}
	copy(room, "xxxxxx")
	wantList(t, n, "1>2:abc")
}

func overwrite(p api.Packet) {
	for i := range p.Data[:cap(p.Data)] {
		p.Data[:cap(p.Data)][i] = '!'
	}
}

func TestAnswersAreNewMemory(t *testing.T) {
	n := wire.New()
	n.Send(packet(1, 2, "abc"))
	n.Copy(0)
	n.Copy(1)
	seen, _ := n.At(0)
	again, _ := n.At(0)
	overwrite(seen)
	wantList(t, n, "1>2:abc", "1>2:abc", "1>2:abc")
	taken, _ := n.Take(1)
	overwrite(taken)
	wantList(t, n, "1>2:abc", "1>2:abc")
	other, _ := n.Take(0)
	last, _ := n.Take(0)
	overwrite(other)
	for _, p := range []api.Packet{again, last} {
		if text(p) != "1>2:abc" {
			t.Errorf("two answers share memory: %s", text(p))
		}
	}
}

// P1, P2, P3.1: whatever is called in whatever order, a network answers as a plain list does, and so does another one that was told the same.
func TestAnyCallsAreAnsweredAsByAPlainList(t *testing.T) {
	for seed := range int64(500) {
		r := rand.New(rand.NewSource(seed))
		nets := []*wire.Net{wire.New(), wire.New()}
		var list []string
		for step := range 100 {
			kind, i := r.Intn(5), r.Intn(len(list)+3)-1
			p := packet(r.Intn(5), r.Intn(5), fmt.Sprint(step)[:r.Intn(2)])
			is, there := "0>0:", i >= 0 && i < len(list)
			wantE := api.ErrNone
			if there {
				is, wantE = list[i], api.OK
			}
			for _, n := range nets {
				var got api.Packet
				e := wantE
				switch kind {
				case 0, 1:
					n.Send(p)
				case 2:
					got, e = n.At(i)
				case 3:
					got, e = n.Take(i)
				case 4:
					e = n.Copy(i)
				}
				if e != wantE || kind/2 == 1 && text(got) != is {
					t.Fatalf("seed %d, step %d, kind %d of %d: %s, %d, want %s, %d", seed, step, kind, i, text(got), e, is, wantE)
				}
			}
			switch {
			case kind < 2:
				list = append(list, text(p))
			case kind == 3 && there:
				list = append(append([]string(nil), list[:i]...), list[i+1:]...)
			case kind == 4 && there:
				list = append(list, is)
			}
			for _, n := range nets {
				wantList(t, n, list...)
			}
		}
	}
}
