package index

import (
	"slices"

	"fascine/api"
	"fascine/seg"
)

// lay: the loose entries become a segment, with the segments that become one with it. These are counted ahead, so that one segment is built, however many there would be on the way to it.
func (x *Index) lay() {
	at := x.joined()
	l := append(docs(x.segs[at:]), x.loose...)
	x.segs = slices.Replace(x.segs, at, len(x.segs), build(l))
	x.loose = nil
}

// joined: the number of the first segment that becomes one with the loose entries; how many segments there are, if none does.
func (x *Index) joined() int {
	at, many := len(x.segs), len(x.loose)
	for {
		first := at + 1 - x.merge
		if first < 0 || x.segs[first].Len() != many {
			return at
		}
		for _, s := range x.segs[first:at] {
			many += s.Len()
		}
		at = first
	}
}

// build: a segment of some entries.
func build(l []api.Doc) *seg.Seg {
	// No error can come here: Add takes entries alone, and no more of them than a segment may have.
	p, _ := seg.Build(l)
	s, _ := seg.Open(p)
	return s
}

// docs: the entries of some segments.
func docs(segs []*seg.Seg) []api.Doc {
	var l []api.Doc
	for _, s := range segs {
		for i := range s.Len() {
			d, _ := s.Doc(i)
			l = append(l, d)
		}
	}
	return l
}

// findFirst: those of the first so many entries of a segment that answer a query.
func findFirst(s *seg.Seg, q api.Query, many int) []api.Doc {
	if many == 0 {
		return nil
	}
	var l []api.Doc
	for _, i := range s.Find(q) {
		if i >= many {
			break
		}
		d, _ := s.Doc(i)
		l = append(l, d)
	}
	return l
}
