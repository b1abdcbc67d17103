package seg

import (
	"fascine/api"
	"fascine/match"
	"fascine/post"
)

// Find: the numbers of the entries that answer a query, rising.
func (s *Seg) Find(q api.Query) []int {
	every := make([]int, s.Len())
	for i := range every {
		every[i] = i
	}
	return s.answer(q, every)
}

// answer: those of some numbers, which rise, whose entries answer a query. Where they all do, the answer is the list itself: a query may be so deep that a list of its own for each level would fill the memory.
func (s *Seg) answer(q api.Query, among []int) []int {
	if len(among) == 0 {
		return nil
	}
	switch q.Kind {
	case api.QWord, api.QPair:
		return part(among, post.And(among, s.posts[q.Text]))
	case api.QNot:
		return s.answerNot(q.Kids, among)
	case api.QAnd:
		return s.answerAll(q.Kids, among)
	case api.QOr:
		return s.answerOne(q.Kids, among)
	}
	return part(among, s.answerAlone(q, among))
}

// answerAlone: of a query that asks neither for terms nor for kids, so that each entry is asked by itself.
func (s *Seg) answerAlone(q api.Query, among []int) []int {
	var found []int
	for _, i := range among {
		if match.Has(q, s.docs[i]) {
			found = append(found, i)
		}
	}
	return found
}

// answerNot: of a NOT with these kids.
func (s *Seg) answerNot(kids []api.Query, among []int) []int {
	if len(kids) != 1 {
		return nil
	}
	return less(among, s.answer(kids[0], among))
}

// answerAll: those that answer every one of some queries: each is asked of those that are left.
func (s *Seg) answerAll(kids []api.Query, among []int) []int {
	for _, q := range kids {
		among = s.answer(q, among)
	}
	return among
}

// answerOne: those that answer at least one of some queries: all but those that are left when each that answers is taken away.
func (s *Seg) answerOne(kids []api.Query, among []int) []int {
	rest := among
	for _, q := range kids {
		rest = less(rest, s.answer(q, rest))
	}
	return less(among, rest)
}

// part: a part of some numbers; the list itself, if it has them all.
func part(among, found []int) []int {
	if len(found) == len(among) {
		return among
	}
	return found
}

// less: some numbers without a part of them; the list itself, if that is empty.
func less(among, found []int) []int {
	if len(found) == 0 {
		return among
	}
	return post.Less(among, found)
}
