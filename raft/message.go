package raft

import (
	"fascine/api"
	"fascine/pack"
)

// The kinds of messages. Each that asks has its answer behind it.
const (
	wouldYou byte = iota
	iWould
	electMe
	iElect
	addThese
	iHave
)

const (
	mostEntries = 50      // of a message, so that it fits into a frame
	mostNumber  = 1 << 60 // no node counts so far
)

// message is what a packet tells.
type message struct {
	kind    byte
	from    uint64
	to      uint64
	term    uint64 // of the node that sends it
	mark    uint64 // rising from one thing told to the next; an answer has that of what it answers
	yes     uint64 // 1: yes
	at      uint64 // the number of an entry
	atTerm  uint64 // its term
	sure    uint64
	many    uint64 // entries, behind the one at that number
	entries []entry
}

// numbers: those that a message of that kind has; none: there is no such kind.
func (m *message) numbers() []*uint64 {
	switch m.kind {
	case wouldYou:
		return []*uint64{&m.from, &m.to, &m.term, &m.at, &m.atTerm}
	case iWould:
		return []*uint64{&m.from, &m.to, &m.term, &m.yes}
	case electMe:
		return []*uint64{&m.from, &m.to, &m.term, &m.at, &m.atTerm}
	case iElect:
		return []*uint64{&m.from, &m.to, &m.term, &m.yes}
	case addThese:
		return []*uint64{&m.from, &m.to, &m.term, &m.mark, &m.at, &m.atTerm, &m.sure, &m.many}
	case iHave:
		return []*uint64{&m.from, &m.to, &m.term, &m.mark, &m.yes, &m.at}
	}
	return nil
}

// bytes: a message as a packet's bytes, in a frame, by whose sum a packet that was spoilt is known.
func (m message) bytes() []byte {
	p := []byte{m.kind}
	for _, v := range m.numbers() {
		p = append(p, pack.Uvarint(*v)...)
	}
	for _, x := range m.entries {
		p = append(p, pack.Uvarint(x.term)...)
		p = append(p, pack.Text(x.data)...)
	}
	// It is never too long, as it has few entries.
	f, _ := pack.Frame(p)
	return f
}

// readMessage: the message of which bytes makes p, if a node may send it.
func readMessage(p []byte) (message, bool) {
	payload, end, e := pack.ReadFrame(p, 0)
	if e != api.OK || end != len(p) || len(payload) == 0 {
		return message{}, false
	}
	m := message{kind: payload[0]}
	r := reader{p: payload, at: 1}
	l := m.numbers()
	for _, v := range l {
		*v = r.number()
	}
	if len(l) == 0 || r.bad || m.many > mostEntries {
		return message{}, false
	}
	for range m.many {
		m.entries = append(m.entries, entry{term: r.number(), data: r.data()})
	}
	if r.bad || r.at != len(payload) || !m.right() {
		return message{}, false
	}
	return m, true
}

// right: may a node send it, as far as the message itself shows?
func (m *message) right() bool {
	if m.yes > 1 {
		return false
	}
	switch m.kind {
	case wouldYou:
		return m.spot() && m.atTerm <= m.term
	case iWould:
		return true
	case electMe:
		// Nobody has added an entry yet in the term in which a node stands.
		return m.term > 0 && m.spot() && m.atTerm < m.term
	case iElect:
		return m.term > 0
	case addThese:
		return m.term > 0 && m.mark > 0 && m.spot() && m.sure <= m.at+m.many && m.rising()
	}
	return m.term > 0 && m.mark > 0
}

// spot: is there an entry just if it has a term?
func (m *message) spot() bool {
	return (m.at == 0) == (m.atTerm == 0)
}

// rising: do the terms of the entries rise, from that of the one ahead of them to the leader's?
func (m *message) rising() bool {
	last := max(m.atTerm, 1)
	for _, x := range m.entries {
		if x.term < last {
			return false
		}
		last = x.term
	}
	return last <= m.term
}

// reader goes through a message's bytes; it is bad once they weren't right.
type reader struct {
	p   []byte
	at  int
	bad bool
}

func (r *reader) number() uint64 {
	v, at, e := pack.ReadUvarint(r.p, r.at)
	if e != api.OK || v > mostNumber {
		r.bad = true
		return 0
	}
	r.at = at
	return v
}

func (r *reader) data() string {
	s, at, e := pack.ReadText(r.p, r.at, api.MaxData)
	if e != api.OK {
		r.bad = true
		return ""
	}
	r.at = at
	return s
}

// bit: a yes or no as a number.
func bit(yes bool) uint64 {
	if yes {
		return 1
	}
	return 0
}
