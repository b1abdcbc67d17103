package cursor

import (
	"slices"

	"fascine/api"
	"fascine/pack"
)

// fields: the bytes of a right cursor, without their sum.
func fields(c api.Cursor) []byte {
	p := slices.Concat([]byte(head), pack.Text(c.Query), pack.Uvarint(uint64(c.Limit)), pack.Uvarint(uint64(len(c.Spots))))
	for _, s := range c.Spots {
		p = slices.Concat(p, pack.Uvarint(s.Term), pack.Uvarint(uint64(s.Len)))
	}
	if c.Any {
		return p
	}
	return slices.Concat(p, pack.Text(c.ID), pack.Uvarint(pack.Zig(c.Time)))
}

// withSum: bytes with their sum behind them, as new memory.
func withSum(p []byte) []byte {
	sum := pack.Sum(p)
	return slices.Concat(p, []byte{byte(sum >> 24), byte(sum >> 16), byte(sum >> 8), byte(sum)})
}

// reader reads the fields of a cursor one by one; where one of them isn't there it has failed, and reads nothing more.
type reader struct {
	bytes  []byte
	at     int
	failed bool
}

// cursor: the one whose fields stand in the bytes, whether it is right or not.
func (r *reader) cursor() api.Cursor {
	c := api.Cursor{Query: r.text(), Limit: int(r.number())}
	// The number may be any; each spot takes bytes, so that it ends with them at the latest.
	for many := r.number(); many > 0 && !r.failed; many-- {
		c.Spots = append(c.Spots, api.Spot{Term: r.number(), Len: int(r.number())})
	}
	// Only what says no place is without bytes for one.
	c.Any = r.at == len(r.bytes)
	if !c.Any {
		c.ID = r.text()
		c.Time = pack.Zag(r.number())
	}
	return c
}

// number: the next field, a number.
func (r *reader) number() uint64 {
	if r.failed {
		return 0
	}
	v, at, e := pack.ReadUvarint(r.bytes, r.at)
	r.at, r.failed = at, e != api.OK
	return v
}

// text: the next field, a text.
func (r *reader) text() string {
	if r.failed {
		return ""
	}
	s, at, e := pack.ReadText(r.bytes, r.at, len(r.bytes))
	r.at, r.failed = at, e != api.OK
	return s
}
