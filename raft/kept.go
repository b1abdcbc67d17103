package raft

import (
	"bytes"

	"fascine/api"
	"fascine/pack"
)

// entry is one of the log, with the term in which a leader added it.
type entry struct {
	term uint64
	data string
}

// kept is what a node must not forget: its term, whom it has voted for in it, its log.
type kept struct {
	term uint64
	vote int
	log  []entry
}

// The kinds of changes.
const (
	begin byte = iota // number is the node's own
	turn              // number is the term
	cut               // number is how many entries stay
	grow              // number is the entry's term
)

// change is one of what is kept, and a record of the file.
type change struct {
	kind   byte
	number uint64
	vote   int // of a turn
	data   string
}

func begins(me int) change {
	return change{kind: begin, number: uint64(me)}
}

func turns(term uint64, vote int) change {
	return change{kind: turn, number: term, vote: vote}
}

func cuts(stay int) change {
	return change{kind: cut, number: uint64(stay)}
}

func grows(x entry) change {
	return change{kind: grow, number: x.term, data: x.data}
}

// record: a change as bytes.
func (c change) record() []byte {
	p := append([]byte{c.kind}, pack.Uvarint(c.number)...)
	if c.kind == turn {
		// One more, as nobody is below 0.
		p = append(p, byte(c.vote+1))
	}
	return append(p, c.data...)
}

// readChange: the change of which record makes p, if there is one.
func readChange(p []byte) (change, bool) {
	if len(p) == 0 {
		return change{}, false
	}
	number, at, e := pack.ReadUvarint(p, 1)
	if e != api.OK {
		return change{}, false
	}
	c := change{kind: p[0], number: number}
	rest := p[at:]
	switch c.kind {
	case turn:
		if len(rest) == 0 || rest[0] > api.MaxNodes {
			return change{}, false
		}
		c.vote = int(rest[0]) - 1
	case grow:
		c.data = string(rest)
	}
	return c, bytes.Equal(c.record(), p)
}

// fits: would a node make that change?
func (k *kept) fits(c change) bool {
	switch c.kind {
	case turn:
		votes := c.number == k.term && k.term > 0 && k.vote == nobody && c.vote != nobody
		return c.number > k.term || votes
	case cut:
		return c.number < uint64(len(k.log))
	case grow:
		return c.number > 0 && c.number >= k.lastTerm() && c.number <= k.term && len(c.data) <= api.MaxData
	}
	return false
}

// do: makes a change.
func (k *kept) do(c change) {
	switch c.kind {
	case turn:
		k.term, k.vote = c.number, c.vote
	case cut:
		// The room behind the last one that stays isn't used again, as somebody may still look at what stood there.
		k.log = k.log[:c.number:c.number]
	case grow:
		k.log = append(k.log, entry{term: c.number, data: c.data})
	}
}

// termAt: the term of the entry of that number; 0 ahead of the first one.
func (k *kept) termAt(i int) uint64 {
	if i == 0 {
		return 0
	}
	return k.log[i-1].term
}

func (k *kept) lastTerm() uint64 {
	return k.termAt(len(k.log))
}
