package raft

import (
	"slices"

	"fascine/api"
)

// peer is what a leader knows of another node.
type peer struct {
	next   int    // the number of the first entry that is to be told to it
	match  int    // so many of its entries are the leader's, durably
	sent   uint64 // the mark of what it was told last
	heard  uint64 // the greatest one that it has answered
	told   int    // how many sure entries it was told of
	silent int    // ticks since it was heard
}

// lead: leads from now on. What others have added is sure only with an entry of its own term behind it, so that it adds one.
func (n *Node) lead() api.Errno {
	if e := n.keep(grows(entry{term: n.term})); e != api.OK {
		return e
	}
	n.role, n.leader, n.waited = leads, n.me, 0
	for i := range n.peers {
		n.peers[i] = peer{next: len(n.log)}
	}
	n.count()
	n.tellNews()
	return api.OK
}

// add: one more entry.
func (n *Node) add(data []byte) api.Errno {
	if e := n.keep(grows(entry{term: n.term, data: string(data)})); e != api.OK {
		return e
	}
	n.count()
	n.tellNews()
	return api.OK
}

// pulse: tells all others that it leads. It doesn't go on if most don't answer any more, as those may never elect another one while they hear it.
func (n *Node) pulse() {
	near := 1
	for _, i := range n.others() {
		n.peers[i].silent++
		if n.peers[i].silent <= patience {
			near++
		}
	}
	if 2*near <= n.nodes {
		n.retire()
		return
	}
	for _, i := range n.others() {
		n.tell(i)
	}
}

// tell: tells another node of the entries that it may not have.
func (n *Node) tell(i int) {
	p := &n.peers[i]
	at := p.next - 1
	end := min(len(n.log), at+mostEntries)
	p.sent++
	p.told = min(n.sure, end)
	n.send(i, message{
		kind:    addThese,
		term:    n.term,
		mark:    p.sent,
		at:      uint64(at),
		atTerm:  n.termAt(at),
		sure:    uint64(p.told),
		many:    uint64(end - at),
		entries: n.log[at:end:end],
	})
}

// tellNews: tells those others for whom there is news, and who have answered what they were told last.
func (n *Node) tellNews() {
	for _, i := range n.others() {
		p := n.peers[i]
		if p.sent == p.heard && (p.next <= len(n.log) || p.told < n.sure) {
			n.tell(i)
		}
	}
}

// count: what most have is sure, if the last of it was added in this term; else another leader might not have it.
func (n *Node) count() {
	have := []int{len(n.log)}
	for _, i := range n.others() {
		have = append(have, n.peers[i].match)
	}
	slices.Sort(have)
	at := have[(n.nodes-1)/2]
	if n.termAt(at) == n.term {
		n.sure = at
	}
}

// hearAdded: another node says how many of its entries are the leader's; or, where it had not the one ahead of those it was told, how many may be.
func (n *Node) hearAdded(from int, m message) api.Errno {
	if m.term > n.term {
		return n.keep(turns(m.term, nobody))
	}
	if n.role != leads || m.term < n.term || m.at > uint64(len(n.log)) {
		return api.OK
	}
	p := &n.peers[from]
	if m.mark > p.heard {
		p.heard, p.silent = m.mark, 0
	}
	if m.yes == 1 {
		p.match = max(p.match, int(m.at))
	}
	p.next = int(m.at) + 1
	n.count()
	n.tellNews()
	return api.OK
}

// follow: takes in what a leader tells, and says what it has of it.
func (n *Node) follow(from int, m message) api.Errno {
	answer := message{kind: iHave, mark: m.mark}
	if m.term >= n.term {
		// One that comes late, or twice, doesn't show that the leader leads still.
		fresh := m.term > n.term || m.mark > n.beat
		if e := n.keep(n.news(m)...); e != api.OK {
			return e
		}
		if fresh {
			n.role, n.leader, n.waited, n.beat = follows, from, 0, m.mark
		}
		if n.has(m) {
			n.sure = max(n.sure, int(m.sure))
			answer.yes, answer.at = 1, m.at+m.many
		} else {
			answer.at = uint64(n.back(m.at))
		}
	}
	answer.term = n.term
	n.send(from, answer)
	return api.OK
}

// news: what changes by what a leader tells.
func (n *Node) news(m message) []change {
	var l []change
	if m.term > n.term {
		l = append(l, turns(m.term, nobody))
	}
	if !n.has(m) {
		return l
	}
	for i, x := range m.entries {
		at := int(m.at) + i
		if at < len(n.log) && n.log[at].term == x.term {
			continue
		}
		if at < len(n.log) {
			l = append(l, cuts(at))
		}
		for _, y := range m.entries[i:] {
			l = append(l, grows(y))
		}
		break
	}
	return l
}

// has: does it have the entry behind which those stand that a leader tells?
func (n *Node) has(m message) bool {
	return m.at <= uint64(len(n.log)) && n.termAt(int(m.at)) == m.atTerm
}

// back: how many of its entries may be those of a leader that has another one of that number. All of one term are passed over at once, as they were added by one leader.
func (n *Node) back(at uint64) int {
	if at > uint64(len(n.log)) {
		return len(n.log)
	}
	i := int(at)
	term := n.termAt(i)
	for i > n.sure && n.termAt(i) == term {
		i--
	}
	return i
}
