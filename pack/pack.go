// Package pack is layer 1: numbers, texts and frames as bytes. See shared/doc/01-pack.md.
package pack

import (
	"bytes"

	"fascine/api"
)

const (
	frameHead  byte   = 0xf1
	frameTail  byte   = 0x1f
	sumBytes          = 4
	polynomial uint32 = 0xedb88320
)

// Uvarint: a number as bytes: seven bits each, the lowest first, the highest bit of all but the last is 1.
func Uvarint(v uint64) []byte {
	var p []byte
	for v > 0x7f {
		p = append(p, byte(v)|0x80)
		v >>= 7
	}
	return append(p, byte(v))
}

// ReadUvarint: the number at a place, and the place behind it.
func ReadUvarint(p []byte, at int) (uint64, int, api.Errno) {
	if at < 0 || at > len(p) {
		return 0, 0, api.ErrArg
	}
	var v uint64
	for i, b := range p[at:] {
		// The tenth byte has room for the last one of 64 bits alone, so that one that another follows is refused here too.
		if i == 9 && b > 1 {
			break
		}
		v |= uint64(b&0x7f) << (7 * i)
		if b < 0x80 {
			if b == 0 && i > 0 {
				break
			}
			return v, at + i + 1, api.OK
		}
	}
	return 0, 0, api.ErrForm
}

// Zig: a number with a sign as one without.
func Zig(v int64) uint64 {
	return uint64(v)<<1 ^ uint64(v>>63)
}

// Zag: back from Zig.
func Zag(u uint64) int64 {
	return int64(u>>1) ^ -int64(u&1)
}

// Text: a text's length and its bytes.
func Text(s string) []byte {
	return append(Uvarint(uint64(len(s))), s...)
}

// ReadText: the text at a place, of at most so many bytes, and the place behind it.
func ReadText(p []byte, at, most int) (string, int, api.Errno) {
	n, from, e := ReadUvarint(p, at)
	if e != api.OK {
		return "", 0, e
	}
	// Held against what is there ahead of any sum, as the number may be too great for an int.
	if n > uint64(len(p)-from) {
		return "", 0, api.ErrForm
	}
	if int(n) > most {
		return "", 0, api.ErrLong
	}
	end := from + int(n)
	return string(p[from:end]), end, api.OK
}

// Sum: CRC-32.
func Sum(p []byte) uint32 {
	sum := ^uint32(0)
	for _, b := range p {
		sum ^= uint32(b)
		for range 8 {
			sum = sum>>1 ^ polynomial&-(sum&1)
		}
	}
	return ^sum
}

// putSum: the four bytes of a sum behind others, the highest first.
func putSum(p []byte, sum uint32) []byte {
	return append(p, byte(sum>>24), byte(sum>>16), byte(sum>>8), byte(sum))
}

// readSum: the sum that putSum has laid at a place where there are four bytes.
func readSum(p []byte, at int) uint32 {
	var sum uint32
	for i := range sumBytes {
		sum = sum<<8 | uint32(p[at+i])
	}
	return sum
}

// Frame: a payload in its frame.
func Frame(p []byte) ([]byte, api.Errno) {
	if len(p) > api.MaxFrame {
		return nil, api.ErrLong
	}
	f := append([]byte{frameHead}, Uvarint(uint64(len(p)))...)
	f = putSum(f, Sum(p))
	f = append(f, p...)
	return append(f, frameTail), api.OK
}

// ReadFrame: the payload of the frame at a place, and the place behind it.
func ReadFrame(p []byte, at int) ([]byte, int, api.Errno) {
	switch {
	case at < 0 || at > len(p):
		return nil, 0, api.ErrArg
	case at == len(p):
		return nil, 0, api.ErrNone
	case p[at] != frameHead:
		return nil, 0, api.ErrForm
	}
	n, sumAt, e := ReadUvarint(p, at+1)
	// A longer payload is in no frame, even where its bytes are all there.
	if e != api.OK || n > api.MaxFrame {
		return nil, 0, api.ErrForm
	}
	from := sumAt + sumBytes
	end := from + int(n)
	if end >= len(p) || p[end] != frameTail {
		return nil, 0, api.ErrForm
	}
	if Sum(p[from:end]) != readSum(p, sumAt) {
		return nil, 0, api.ErrSum
	}
	return bytes.Clone(p[from:end]), end + 1, api.OK
}
