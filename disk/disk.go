// Package disk is layer 1, sectors: see shared/doc/01-disk.md.
package disk

import (
	"slices"
	"strings"

	"armada/api"
)

// New tells a disk of n sectors, whose bytes are all 0, and whether there may be one.
func New(n int) (api.Disk, bool) {
	if n < 1 || n > api.MaxSectors {
		return api.Disk{}, false
	}
	d := api.Disk{Sectors: make([]string, n)}
	for i := range d.Sectors {
		d.Sectors[i] = fill("")
	}
	return d, true
}

// May tells whether d may be.
func May(d api.Disk) bool {
	if len(d.Sectors) < 1 || len(d.Sectors) > api.MaxSectors {
		return false
	}
	for _, s := range d.Sectors {
		if len(s) != api.Sector {
			return false
		}
	}
	for _, w := range d.Cache {
		if !has(d, w.At) || len(w.Data) != api.Sector {
			return false
		}
	}
	return true
}

// Put tells d with one write more, behind all others.
func Put(d api.Disk, at int, data string) (api.Disk, api.Errno) {
	own := clone(d)
	if !May(d) {
		return own, api.ErrArg
	}
	return write(own, at, data)
}

// Get tells what was last written of a sector, flushed or not.
func Get(d api.Disk, at int) (string, api.Errno) {
	if !May(d) || !has(d, at) {
		return "", api.ErrArg
	}
	data := d.Sectors[at]
	for _, w := range d.Cache {
		if w.At == at {
			data = w.Data
		}
	}
	return data, api.OK
}

// Flush tells d, of which all writes are done.
func Flush(d api.Disk) (api.Disk, api.Errno) {
	own := clone(d)
	if !May(d) {
		return own, api.ErrArg
	}
	return flush(own), api.OK
}

// Crash tells d, of which just those writes are done that keep tells.
func Crash(d api.Disk, keep []bool) (api.Disk, api.Errno) {
	own := clone(d)
	if !May(d) {
		return own, api.ErrArg
	}
	kept := func(place int) bool { return place < len(keep) && keep[place] }
	return settle(own, kept), api.OK
}

// Run tells d, with which the first n of l are done.
func Run(d api.Disk, l []api.Act, n int) (api.Disk, api.Errno) {
	own := clone(d)
	if !May(d) {
		return own, api.ErrArg
	}
	for _, a := range l[:min(max(n, 0), len(l))] {
		if a.Flush {
			own = flush(own)
			continue
		}
		var e api.Errno
		if own, e = write(own, a.At, a.Data); e != api.OK {
			return clone(d), e
		}
	}
	return own, api.OK
}

// Same tells whether a and b have the same sectors, and the same writes, in order.
func Same(a api.Disk, b api.Disk) bool {
	return slices.Equal(a.Sectors, b.Sectors) && slices.Equal(a.Cache, b.Cache)
}

func has(d api.Disk, at int) bool { return at >= 0 && at < len(d.Sectors) }

func fill(data string) string {
	return data + strings.Repeat("\x00", api.Sector-len(data))
}

// clone is taken ahead of each change, for what is handed in may have room behind its lists that is somebody else's.
func clone(d api.Disk) api.Disk {
	return api.Disk{Sectors: slices.Clone(d.Sectors), Cache: slices.Clone(d.Cache)}
}

// write, like flush and settle, changes the memory of own, lest a long run copy it act by act.
func write(own api.Disk, at int, data string) (api.Disk, api.Errno) {
	if !has(own, at) {
		return own, api.ErrArg
	}
	if len(data) > api.Sector {
		return own, api.ErrSize
	}
	own.Cache = append(own.Cache, api.Write{At: at, Data: fill(data)})
	return own, api.OK
}

func flush(own api.Disk) api.Disk {
	return settle(own, func(place int) bool { return true })
}

func settle(own api.Disk, kept func(place int) bool) api.Disk {
	for i, w := range own.Cache {
		if kept(i) {
			own.Sectors[w.At] = w.Data
		}
	}
	own.Cache = nil
	return own
}
