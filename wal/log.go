package wal

import (
	"bytes"
	"slices"

	"seawall/api"
	"seawall/bin"
	"seawall/disk"
	"seawall/frame"
)

const (
	heads      = 2       // the sectors ahead of the areas, of which there are as many
	epochs     = 1 << 62 // each epoch is below it
	headKind   = 1
	recordKind = 2
)

// log: an epoch's records, as they lie in its area.
type log struct {
	epoch uint64
	area  []byte
	end   int // of the records: noughts are behind it
	count int // how many records
}

// load: the log that a disk has, with whatever is behind its records. The disk is up: its sectors are there to be read, as power goes at no reading.
func load(d *disk.Disk) log {
	each := (d.Sectors() - heads) / heads
	l := log{epoch: newest(d), area: make([]byte, each*api.Sector)}
	l.sectors(0, len(l.area), func(at int, b []byte) api.Errno {
		had, err := d.Read(at)
		copy(b, had)
		return err
	})
	l.find()
	return l
}

// newest: the greater one of the epochs that have a head.
func newest(d *disk.Disk) uint64 {
	epoch := uint64(0)
	for at := range heads {
		b, _ := d.Read(at)
		epoch = max(epoch, headEpoch(b, at))
	}
	return epoch
}

// headEpoch: the epoch of which a sector has a head. Without one it is 0, which is also the epoch of a disk without heads.
func headEpoch(b []byte, at int) uint64 {
	f, _, err := frame.Get(b, 0)
	if err != api.OK || f.Kind != headKind {
		return 0
	}
	n, to, err := bin.Uint(f.Body, 0)
	if err != api.OK || to != len(f.Body) || n >= epochs || n%heads != uint64(at) {
		return 0
	}
	return n
}

// find: which of the area's bytes are records.
func (l *log) find() {
	for {
		f, to, err := frame.Get(l.area, l.end)
		if err != api.OK || f.Kind != recordKind {
			return
		}
		l.end = to
		l.count++
	}
}

// wipe: what a crash left behind the records must not be taken for one when others stand ahead of it.
func (l *log) wipe(d *disk.Disk) api.Errno {
	clear(l.area[l.end:])
	wiped := false
	err := l.sectors(l.end, len(l.area), func(at int, b []byte) api.Errno {
		had, err := d.Read(at)
		if err != api.OK || bytes.Equal(b, had) {
			return err
		}
		wiped = true
		return d.Write(at, b)
	})
	if err != api.OK || !wiped {
		return err
	}
	return d.Sync()
}

// sectors: something is done with each sector of the area that has bytes from one place of it to another, rising, up to the first error; it is told where on the disk the sector lies.
func (l *log) sectors(from, to int, do func(at int, b []byte) api.Errno) api.Errno {
	first := heads + l.side()*(len(l.area)/api.Sector)
	for i := from / api.Sector; i*api.Sector < to; i++ {
		b := l.area[i*api.Sector : (i+1)*api.Sector]
		if err := do(first+i, b); err != api.OK {
			return err
		}
	}
	return api.OK
}

// side: which of the heads and of the areas the log has.
func (l *log) side() int {
	return int(l.epoch % heads)
}

// room: how many bytes of the area no record has.
func (l *log) room() int {
	return len(l.area) - l.end
}

// add: one record more, in the area alone.
func (l *log) add(body []byte) api.Errno {
	b, err := frame.Put(recordKind, body)
	switch {
	case err != api.OK:
		return err
	case len(b) > l.room():
		return api.ErrFull
	}
	l.end += copy(l.area[l.end:], b)
	l.count++
	return api.OK
}

// next: the log of the next epoch, with other records, in its area alone.
func (l *log) next(bodies [][]byte) (log, api.Errno) {
	switch {
	case slices.ContainsFunc(bodies, tooLong):
		// Looked for in all ahead of the first frame: a list that has no room may be of any length.
		return log{}, api.ErrLong
	case l.epoch+1 == epochs:
		return log{}, api.ErrFull
	}
	n := log{epoch: l.epoch + 1, area: make([]byte, len(l.area))}
	for _, body := range bodies {
		if err := n.add(body); err != api.OK {
			return log{}, err
		}
	}
	return n, api.OK
}

// tooLong: does no frame take that body?
func tooLong(body []byte) bool {
	return len(body) > api.MaxBody
}

// settle: the log takes the old one's place on the disk. Its records must be safe ahead of the head that names them.
func (l *log) settle(d *disk.Disk) api.Errno {
	if err := l.sectors(0, len(l.area), d.Write); err != api.OK {
		return err
	}
	if err := d.Sync(); err != api.OK {
		return err
	}
	if err := d.Write(l.side(), l.head()); err != api.OK {
		return err
	}
	return d.Sync()
}

// head: the sector that names the epoch.
func (l *log) head() []byte {
	// A number's few bytes are never too long for a frame, nor that for a sector.
	f, _ := frame.Put(headKind, bin.PutUint(l.epoch))
	b := make([]byte, api.Sector)
	copy(b, f)
	return b
}
