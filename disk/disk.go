// Package disk is layer 2: a stand-in for a disk, whose files may lose what isn't durable. See shared/doc/02-disk.md.
package disk

import (
	"bytes"
	"maps"
	"slices"

	"fascine/api"
)

// file is a file's bytes, of which the first ones, so many as sure says, are durable.
type file struct {
	data []byte
	sure int
}

// Disk is files that may lose what isn't durable.
type Disk struct {
	room  int
	used  int
	files map[string]*file
	ops   int
	fuse  int // in which operation from now on the power goes off; 0: in none
	off   bool
}

// New: a disk without files, with room for so many bytes.
func New(room int) (*Disk, api.Errno) {
	if room < 0 || room > api.MaxRoom {
		return nil, api.ErrArg
	}
	return &Disk{room: room, files: map[string]*file{}}, api.OK
}

// Name: can it be a file's name?
func Name(s string) bool {
	if len(s) < 1 || len(s) > api.MaxName {
		return false
	}
	for i := range len(s) {
		if !nameByte(s[i]) {
			return false
		}
	}
	return true
}

func nameByte(b byte) bool {
	return 'a' <= b && b <= 'z' || '0' <= b && b <= '9' || b == '.' || b == '-'
}

// ready: why a call with these names is refused, whatever there is on the disk. No name may stand twice: a file isn't renamed to its own.
func (d *Disk) ready(names ...string) api.Errno {
	if d == nil {
		return api.ErrNone
	}
	for i, s := range names {
		if !Name(s) || slices.Contains(names[:i], s) {
			return api.ErrArg
		}
	}
	if d.off {
		return api.ErrCrash
	}
	return api.OK
}

// begin: one more operation, which nothing refuses any more; the power may go off in it.
func (d *Disk) begin() api.Errno {
	d.ops++
	if d.fuse == 0 {
		return api.OK
	}
	d.fuse--
	if d.fuse > 0 {
		return api.OK
	}
	d.off = true
	return api.ErrCrash
}

// write: an operation that lays bytes behind those of a file. They are there even where the power goes off in it.
func (d *Disk) write(name string, p []byte) api.Errno {
	if len(p) > d.room-d.used {
		return api.ErrFull
	}
	f := d.files[name]
	if f == nil {
		f = &file{}
		d.files[name] = f
	}
	f.data = append(f.data, p...)
	d.used += len(p)
	return d.begin()
}

// with: an operation that does something with a file that there is. Nothing is done where the power goes off in it.
func (d *Disk) with(name string, do func(f *file)) api.Errno {
	f := d.files[name]
	if f == nil {
		return api.ErrNone
	}
	if e := d.begin(); e != api.OK {
		return e
	}
	do(f)
	return api.OK
}

// drop: a file is gone, if there is one.
func (d *Disk) drop(name string) {
	if f := d.files[name]; f != nil {
		d.used -= len(f.data)
		delete(d.files, name)
	}
}

// Append: bytes behind a file's last one.
func (d *Disk) Append(name string, p []byte) api.Errno {
	if e := d.ready(name); e != api.OK {
		return e
	}
	return d.write(name, p)
}

// Put: a new file of these bytes.
func (d *Disk) Put(name string, p []byte) api.Errno {
	if e := d.ready(name); e != api.OK {
		return e
	}
	if d.files[name] != nil {
		return api.ErrExists
	}
	return d.write(name, p)
}

// Sync: a file's bytes are durable.
func (d *Disk) Sync(name string) api.Errno {
	if e := d.ready(name); e != api.OK {
		return e
	}
	return d.with(name, func(f *file) { f.sure = len(f.data) })
}

// Remove: a file is gone.
func (d *Disk) Remove(name string) api.Errno {
	if e := d.ready(name); e != api.OK {
		return e
	}
	return d.with(name, func(*file) { d.drop(name) })
}

// Rename: a file that is durable has another name, in the place of what had it.
func (d *Disk) Rename(name, to string) api.Errno {
	if e := d.ready(name, to); e != api.OK {
		return e
	}
	if f := d.files[name]; f != nil && f.sure < len(f.data) {
		return api.ErrState
	}
	return d.with(name, func(f *file) {
		d.drop(to)
		delete(d.files, name)
		d.files[to] = f
	})
}

// Read: a file's bytes.
func (d *Disk) Read(name string) ([]byte, api.Errno) {
	if e := d.ready(name); e != api.OK {
		return nil, e
	}
	f := d.files[name]
	if f == nil {
		return nil, api.ErrNone
	}
	return bytes.Clone(f.data), api.OK
}

// Names: the files' names, rising.
func (d *Disk) Names() []string {
	if d == nil {
		return nil
	}
	return slices.Sorted(maps.Keys(d.files))
}

// Sure: how many of a file's bytes are durable.
func (d *Disk) Sure(name string) int {
	if d == nil || d.files[name] == nil {
		return 0
	}
	return d.files[name].sure
}

// Arm: the power goes off in the n-th operation from now on; 0: it doesn't.
func (d *Disk) Arm(n int) api.Errno {
	if d == nil {
		return api.ErrNone
	}
	if n < 0 {
		return api.ErrArg
	}
	d.fuse = n
	return api.OK
}

// Restart: the power goes off, and on; of each file, in the order of the names, so many bytes are kept that were not durable.
func (d *Disk) Restart(keep []int) api.Errno {
	if d == nil {
		return api.ErrNone
	}
	for i, name := range d.Names() {
		more := 0
		if i < len(keep) {
			more = keep[i]
		}
		d.used -= d.files[name].lose(more)
	}
	d.fuse, d.off = 0, false
	return api.OK
}

// lose: of the bytes that aren't durable the first ones, so many as keep says, become durable, and the others are lost; how many are.
func (f *file) lose(keep int) int {
	loose := len(f.data) - f.sure
	kept := min(max(keep, 0), loose)
	f.sure += kept
	f.data = f.data[:f.sure]
	return loose - kept
}

// Ops: how many operations were begun.
func (d *Disk) Ops() int {
	if d == nil {
		return 0
	}
	return d.ops
}

// On: is the power on?
func (d *Disk) On() bool {
	return d != nil && !d.off
}

// Used: the bytes of all files.
func (d *Disk) Used() int {
	if d == nil {
		return 0
	}
	return d.used
}
