package raft

import "fascine/api"

// content: has it heard of a leader not long ago, if only of itself? Then it helps nobody to become another one, so that one who was cut off doesn't disturb the rest.
func (n *Node) content() bool {
	return n.leader != nobody && n.waited < patience
}

// asGood: does who sent this have all of this log that may be sure?
func (n *Node) asGood(m message) bool {
	last := n.lastTerm()
	return m.atTerm > last || m.atTerm == last && m.at >= uint64(len(n.log))
}

// elected: have most said yes?
func (n *Node) elected() bool {
	votes := 0
	for _, yes := range n.yes {
		if yes {
			votes++
		}
	}
	return 2*votes > n.nodes
}

// beg: its own yes is the only one, and all others are asked for theirs.
func (n *Node) beg(kind byte) {
	n.yes = [api.MaxNodes]bool{}
	n.yes[n.me] = true
	for _, i := range n.others() {
		n.send(i, message{kind: kind, term: n.term, at: uint64(len(n.log)), atTerm: n.lastTerm()})
	}
}

// ask: asks all others whether they would elect it.
func (n *Node) ask() api.Errno {
	n.role, n.leader, n.waited = asks, nobody, 0
	n.beg(wouldYou)
	if n.elected() {
		return n.stand()
	}
	return api.OK
}

// answerAsked: says whether it would elect that node. Nothing is promised by it.
func (n *Node) answerAsked(from int, m message) {
	yes := !n.content() && n.asGood(m)
	n.send(from, message{kind: iWould, term: n.term, yes: bit(yes)})
}

// hearAsked: somebody says whether they would elect it.
func (n *Node) hearAsked(from int, m message) {
	if n.role == asks {
		n.seen = max(n.seen, m.term)
		n.yes[from] = m.yes == 1
	}
}

// stand: asks all others to elect it, in a term above theirs.
func (n *Node) stand() api.Errno {
	if e := n.keep(turns(max(n.term, n.seen)+1, n.me)); e != api.OK {
		return e
	}
	n.role, n.waited = stands, 0
	n.beg(electMe)
	if n.elected() {
		return n.lead()
	}
	return api.OK
}

// answerStood: elects that node, if nobody else was in that term, and says whom it has elected.
func (n *Node) answerStood(from int, m message) api.Errno {
	free := m.term > n.term && !n.content() || m.term == n.term && n.vote == nobody
	if free && n.asGood(m) {
		if e := n.keep(turns(m.term, from)); e != api.OK {
			return e
		}
		n.waited = 0
	}
	n.send(from, message{kind: iElect, term: n.term, yes: bit(n.vote == from)})
	return api.OK
}

// hearStood: somebody says whether they elect it.
func (n *Node) hearStood(from int, m message) api.Errno {
	if n.role != stands || m.term != n.term {
		return api.OK
	}
	n.yes[from] = m.yes == 1
	if n.elected() {
		return n.lead()
	}
	return api.OK
}
