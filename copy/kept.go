package copy

import (
	"fascine/api"
	"fascine/pack"
)

// kept is what a copy must not forget: its terms, its history.
type kept struct {
	terms Terms
	ops   []api.Op
}

// The kinds of changes. They are no letters, so that a text that somebody laid into the file is none of them.
const (
	hears byte = 0xd0 + iota
	serves
	adopts
)

// change is one of what is kept, and a record of the file. Where a history is taken the entries at its front that are there already aren't laid down once more.
type change struct {
	kind byte
	term uint64
	same uint64   // of adopts: how many entries stay
	more []api.Op // of adopts: those behind them
}

// record: a change as bytes.
func (x change) record() []byte {
	p := append([]byte{x.kind}, pack.Uvarint(x.term)...)
	if x.kind != adopts {
		return p
	}
	p = append(p, pack.Uvarint(x.same)...)
	for _, o := range x.more {
		p = append(p, opBytes(o)...)
	}
	return p
}

// readChange: the change of which record makes p, if there is one.
func readChange(p []byte) (change, bool) {
	if len(p) == 0 {
		return change{}, false
	}
	term, at, e := pack.ReadUvarint(p, 1)
	if e != api.OK {
		return change{}, false
	}
	x := change{kind: p[0], term: term}
	if x.kind != adopts {
		return x, at == len(p)
	}
	x.same, at, e = pack.ReadUvarint(p, at)
	if e != api.OK {
		return change{}, false
	}
	for at < len(p) {
		o, next, ok := readOp(p, at)
		if !ok {
			return change{}, false
		}
		x.more = append(x.more, o)
		at = next
	}
	return x, true
}

// fits: would a copy make that change?
func (k *kept) fits(x change) bool {
	if x.term < k.terms.Heard {
		return false
	}
	switch x.kind {
	case hears:
		return x.term > k.terms.Heard
	case serves:
		return x.term > k.terms.Served
	case adopts:
		if x.same > uint64(len(k.ops)) {
			return false
		}
		n := int(x.same)
		return k.takes(x.term, n+len(x.more)) && sameFront(k.ops[n:], x.more) == 0
	}
	return false
}

// takes: is a history of so many entries, of the first copy of that term, taken? One that was taken already only grows.
func (k *kept) takes(term uint64, many int) bool {
	return term > k.terms.Adopted || many > len(k.ops)
}

// sameFront: how many entries at the front of two lists are the same.
func sameFront(a, b []api.Op) int {
	n := 0
	for n < len(a) && n < len(b) && a[n] == b[n] {
		n++
	}
	return n
}

// do: makes a change.
func (k *kept) do(x change) {
	k.terms.Heard = x.term
	switch x.kind {
	case serves:
		k.terms.Served, k.terms.Adopted = x.term, x.term
	case adopts:
		k.terms.Adopted = x.term
		k.ops = append(k.ops[:x.same], x.more...)
	}
}
