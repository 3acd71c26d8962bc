// Package disk is layer 1: see shared/doc/01-disk.md.
package disk

import (
	"bytes"
	"slices"

	"cuvette/api"
)

// New is a disk of n sectors of zeros.
func New(n int) (api.Disk, api.Errno) {
	if n < 1 || n > api.MaxSectors {
		return api.Disk{}, api.ErrArg
	}
	return api.Disk{Dry: make([]byte, n*api.Sector), Fuse: api.NoFuse}, api.OK
}

// Check tells whether a disk may be.
func Check(d api.Disk) api.Errno {
	n := len(d.Dry) / api.Sector
	if n < 1 || n > api.MaxSectors || len(d.Dry)%api.Sector != 0 || len(d.Wet) > api.MaxWet || !isFuse(d.Fuse) {
		return api.ErrArg
	}
	for _, w := range d.Wet {
		if len(w.B) != api.Sector || !isThere(d, w.At) {
			return api.ErrArg
		}
	}
	return api.OK
}

// Same tells whether two disks are the same in all their parts.
func Same(a, b api.Disk) bool {
	return a.Fuse == b.Fuse && a.Dead == b.Dead && bytes.Equal(a.Dry, b.Dry) && slices.EqualFunc(a.Wet, b.Wet, sameWrite)
}

// Lit gives a disk a fuse.
func Lit(d api.Disk, fuse int) (api.Disk, api.Errno) {
	if e := ready(d, isFuse(fuse)); e != api.OK {
		return api.Disk{}, e
	}
	out := clone(d)
	out.Fuse = fuse
	return out, api.OK
}

// Read reads a sector.
func Read(d api.Disk, at int) ([]byte, api.Errno) {
	if e := ready(d, true); e != api.OK {
		return nil, e
	}
	if !isThere(d, at) {
		return nil, api.ErrNone
	}
	for _, w := range slices.Backward(d.Wet) {
		if w.At == at {
			return bytes.Clone(w.B), api.OK
		}
	}
	return bytes.Clone(d.Dry[at*api.Sector : (at+1)*api.Sector]), api.OK
}

// Write writes a sector, which is kept for certain when it is flushed.
func Write(d api.Disk, at int, b []byte) (api.Disk, api.Errno) {
	if e := ready(d, len(b) == api.Sector); e != api.OK {
		return api.Disk{}, e
	}
	if !isThere(d, at) {
		return api.Disk{}, api.ErrNone
	}
	if len(d.Wet) == api.MaxWet {
		return api.Disk{}, api.ErrFull
	}
	return deed(d, func(out *api.Disk) {
		out.Wet = append(out.Wet, api.Write{At: at, B: bytes.Clone(b)})
	})
}

// Flush lets all that was written be kept.
func Flush(d api.Disk) (api.Disk, api.Errno) {
	if e := ready(d, true); e != api.OK {
		return api.Disk{}, e
	}
	return deed(d, func(out *api.Disk) {
		dry(out, func(int) int { return api.Sector })
	})
}

// Crash lets of each write that was not flushed only so many octets be kept.
func Crash(d api.Disk, keep []byte) (api.Disk, api.Errno) {
	if e := Check(d); e != api.OK {
		return api.Disk{}, e
	}
	out := clone(d)
	dry(&out, func(i int) int {
		if i >= len(keep) {
			return 0
		}
		return min(int(keep[i]), api.Sector)
	})
	out.Fuse, out.Dead = api.NoFuse, false
	return out, api.OK
}

// deed does something to a copy of a disk, unless its fuse has burnt down: then the copy is told all the same, as a Dead one.
func deed(d api.Disk, do func(out *api.Disk)) (api.Disk, api.Errno) {
	out := clone(d)
	if out.Fuse == 0 {
		out.Dead = true
		return out, api.ErrDead
	}
	if out.Fuse != api.NoFuse {
		out.Fuse--
	}
	do(&out)
	return out, api.OK
}

// dry lets as many octets of each Wet write be Dry as many tells; nothing is Wet then.
func dry(d *api.Disk, many func(i int) int) {
	for i, w := range d.Wet {
		copy(d.Dry[w.At*api.Sector:], w.B[:many(i)])
	}
	d.Wet = nil
}

// clone is a disk that shares no memory with the one it is of.
func clone(d api.Disk) api.Disk {
	out := api.Disk{Dry: bytes.Clone(d.Dry), Fuse: d.Fuse, Dead: d.Dead}
	// One piece for all writes, cut so that none reaches into the next: a full disk has thousands of them. And there is room for one more.
	room := make([]byte, len(d.Wet)*api.Sector)
	out.Wet = make([]api.Write, len(d.Wet), len(d.Wet)+1)
	for i, w := range d.Wet {
		b := room[i*api.Sector : (i+1)*api.Sector : (i+1)*api.Sector]
		copy(b, w.B)
		out.Wet[i] = api.Write{At: w.At, B: b}
	}
	return out
}

// ready tells why nothing is done with a disk: it may not be, or what else is handed in may not (fine is false), and only then that it is Dead.
func ready(d api.Disk, fine bool) api.Errno {
	if Check(d) != api.OK || !fine {
		return api.ErrArg
	}
	if d.Dead {
		return api.ErrDead
	}
	return api.OK
}

func isFuse(fuse int) bool {
	return fuse >= api.NoFuse && fuse <= api.MaxFuse
}

func isThere(d api.Disk, at int) bool {
	return at >= 0 && at < len(d.Dry)/api.Sector
}

func sameWrite(a, b api.Write) bool {
	return a.At == b.At && bytes.Equal(a.B, b.B)
}
