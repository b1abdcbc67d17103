package seg

import (
	"fascine/api"
	"fascine/pack"
	"fascine/post"
)

const (
	mark     = "SEG1"
	sumBytes = 4
)

// body: the bytes of a segment ahead of their sum.
func body(l []api.Doc, posts map[string][]int) []byte {
	p := append([]byte(mark), pack.Uvarint(uint64(len(l)))...)
	for _, d := range l {
		p = append(p, pack.Text(d.ID)...)
		p = append(p, pack.Uvarint(pack.Zig(d.Time))...)
		p = append(p, pack.Text(d.Text)...)
	}
	p = append(p, pack.Uvarint(uint64(len(posts)))...)
	for _, term := range keysInOrder(posts) {
		// No error can come here: the numbers rise from 0 on.
		numbers, _ := post.Encode(posts[term])
		p = append(p, pack.Text(term)...)
		p = append(p, numbers...)
	}
	return p
}

// sum: the sum of some bytes, as bytes, the highest first.
func sum(p []byte) []byte {
	n := pack.Sum(p)
	return []byte{byte(n >> 24), byte(n >> 16), byte(n >> 8), byte(n)}
}

// readDocs: the entries that stand at a place, behind how many they are; false, if they don't stand there whole.
func readDocs(p []byte, at int) ([]api.Doc, bool) {
	many, at, e := pack.ReadUvarint(p, at)
	if e != api.OK || many > api.MaxDocs {
		return nil, false
	}
	var l []api.Doc
	for range many {
		var d api.Doc
		d, at, e = readDoc(p, at)
		if e != api.OK {
			return nil, false
		}
		l = append(l, d)
	}
	return l, true
}

// readDoc: the entry that stands at a place, and the place behind it.
func readDoc(p []byte, at int) (api.Doc, int, api.Errno) {
	id, at, e := pack.ReadText(p, at, api.MaxName)
	if e != api.OK {
		return api.Doc{}, 0, e
	}
	time, at, e := pack.ReadUvarint(p, at)
	if e != api.OK {
		return api.Doc{}, 0, e
	}
	text, at, e := pack.ReadText(p, at, api.MaxText)
	if e != api.OK {
		return api.Doc{}, 0, e
	}
	return api.Doc{ID: id, Time: pack.Zag(time), Text: text}, at, api.OK
}
