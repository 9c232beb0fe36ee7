package wal_test

import (
	"bytes"
	"encoding/binary"
	"hash/crc32"
	"math/rand"
	"slices"
	"testing"

	"seawall/api"
	"seawall/disk"
	"seawall/wal"
)

// plain is a log as the chapter's words tell it, on a disk of its own: of what it has only the records are kept, and what a sector must have is found anew each time.
type plain struct {
	d     *disk.Disk
	epoch uint64
	l     [][]byte
	safe  int
	dead  bool
}

// plainFrame: the frame at the front of b, and how many bytes it has; 0, if none is there.
func plainFrame(b []byte) (kind byte, body []byte, size int) {
	if len(b) < 6 || b[0] != 0xa7 {
		return 0, nil, 0
	}
	n := int64(binary.BigEndian.Uint32(b[2:]))
	if n > api.MaxBody || int(n)+overhead > len(b) {
		return 0, nil, 0
	}
	end := 6 + int(n)
	if binary.BigEndian.Uint32(b[end:]) != crc32.ChecksumIEEE(b[:end]) {
		return 0, nil, 0
	}
	return b[1], slices.Clone(b[6:end]), end + 4
}

// plainPut: a frame's bytes.
func plainPut(kind byte, body []byte) []byte {
	b := binary.BigEndian.AppendUint32([]byte{0xa7, kind}, uint32(len(body)))
	b = append(b, body...)
	return binary.BigEndian.AppendUint32(b, crc32.ChecksumIEEE(b))
}

// plainRow: the bytes of records.
func plainRow(l [][]byte) []byte {
	var row []byte
	for _, body := range l {
		row = append(row, plainPut(2, body)...)
	}
	return row
}

// plainOpen: the log of a disk; ErrDead, if the power goes.
func plainOpen(d *disk.Disk) (*plain, api.Errno) {
	if d.Sectors() < 6 {
		return nil, api.ErrArea
	}
	if !d.Up() {
		return nil, api.ErrDead
	}
	p := &plain{d: d}
	for _, side := range []uint64{0, 1} {
		b, _ := d.Read(int(side))
		kind, body, size := plainFrame(b)
		n, used := binary.Uvarint(body)
		shortest := bytes.Equal(binary.AppendUvarint(nil, n), body)
		if size > 0 && kind == 1 && used > 0 && shortest && n < 1<<62 && n%2 == side && n > p.epoch {
			p.epoch = n
		}
	}
	var area []byte
	for i := range p.each() {
		b, _ := d.Read(p.first(p.epoch) + i)
		area = append(area, b...)
	}
	row := area
	for {
		kind, body, size := plainFrame(row)
		if size == 0 || kind != 2 {
			break
		}
		p.l = append(p.l, body)
		row = row[size:]
	}
	p.safe = len(p.l)
	return p, p.wipe(area, len(area)-len(row))
}

// wipe: no sector of the area has anything behind the place.
func (p *plain) wipe(area []byte, place int) api.Errno {
	any := false
	for i := range p.each() {
		dirty := false
		s := slices.Clone(area[i*api.Sector : (i+1)*api.Sector])
		for j, c := range s {
			if i*api.Sector+j >= place && c != 0 {
				s[j] = 0
				dirty = true
			}
		}
		if dirty && p.d.Write(p.first(p.epoch)+i, s) != api.OK {
			return api.ErrDead
		}
		any = any || dirty
	}
	if any {
		return p.d.Sync()
	}
	return api.OK
}

// each: how many sectors an area has.
func (p *plain) each() int {
	return (p.d.Sectors() - 2) / 2
}

// first: the first sector of an epoch's area.
func (p *plain) first(epoch uint64) int {
	if epoch%2 == 0 {
		return 2
	}
	return 2 + p.each()
}

func (p *plain) room() int {
	if p.dead {
		return 0
	}
	return p.each()*api.Sector - len(plainRow(p.l))
}

func (p *plain) append(body []byte) api.Errno {
	switch {
	case p.dead:
		return api.ErrDead
	case len(body) > 1024:
		return api.ErrLong
	case len(body)+overhead > p.room():
		return api.ErrFull
	}
	from := len(plainRow(p.l))
	p.l = append(slices.Clone(p.l), slices.Clone(body))
	row := plainRow(p.l)
	for i := range p.each() {
		if (i+1)*api.Sector > from && i*api.Sector < len(row) {
			s := padded(row, p.each())[i*api.Sector : (i+1)*api.Sector]
			if p.d.Write(p.first(p.epoch)+i, s) != api.OK {
				p.dead = true
				return api.ErrDead
			}
		}
	}
	return api.OK
}

func (p *plain) sync() api.Errno {
	if p.dead || p.d.Sync() != api.OK {
		p.dead = true
		return api.ErrDead
	}
	p.safe = len(p.l)
	return api.OK
}

func (p *plain) reset(l [][]byte) api.Errno {
	if p.dead {
		return api.ErrDead
	}
	row := plainRow(l)
	for _, body := range l {
		if len(body) > 1024 {
			return api.ErrLong
		}
	}
	if len(row) > p.each()*api.Sector || p.epoch+1 == 1<<62 {
		return api.ErrFull
	}
	p.dead = true
	next := p.epoch + 1
	for i, s := range slices.Collect(slices.Chunk(padded(row, p.each()), api.Sector)) {
		if p.d.Write(p.first(next)+i, s) != api.OK {
			return api.ErrDead
		}
	}
	if p.d.Sync() != api.OK {
		return api.ErrDead
	}
	h := padded(plainPut(1, binary.AppendUvarint(nil, next)), 1)
	if p.d.Write(int(next%2), h) != api.OK || p.d.Sync() != api.OK {
		return api.ErrDead
	}
	p.dead, p.epoch, p.safe = false, next, len(l)
	p.l = nil
	for _, body := range l {
		p.l = append(p.l, slices.Clone(body))
	}
	return api.OK
}

// both is a log and a plain one (nil, if they could not be opened): to both the same is done. d is the plain one's disk.
type both struct {
	w *wal.Wal
	p *plain
	d *disk.Disk
}

// openBoth opens the log of a disk d, and the plain one of another disk that has the same. Without power there is neither, till the next crash.
func openBoth(t *testing.T, d, c *disk.Disk) *both {
	t.Helper()
	w, err := wal.Open(d)
	p, want := plainOpen(c)
	if err != want || (w != nil) != (err == api.OK) {
		t.Fatalf("Open: %v, %d, not %d", w, err, want)
	}
	if err != api.OK {
		w, p = nil, nil
	}
	b := &both{w: w, p: p, d: c}
	b.checkDisks(t, d)
	return b
}

// checkDisks: both disks have the same, and would have it behind a crash.
func (b *both) checkDisks(t *testing.T, d *disk.Disk) {
	t.Helper()
	if d.Up() != b.d.Up() || d.Waiting() != b.d.Waiting() {
		t.Fatalf("up %t, %d wait, not %t, %d", d.Up(), d.Waiting(), b.d.Up(), b.d.Waiting())
	}
	if d.Up() && !bytes.Equal(has(t, d), has(t, b.d)) {
		t.Fatalf("the disk has %x, not %x", has(t, d), has(t, b.d))
	}
	keep := []int{32, 9, 32, 0, 32, 20, 32, 32, 32, 3, 32}
	x, y := d.Clone(), b.d.Clone()
	x.Crash(keep)
	y.Crash(keep)
	if !bytes.Equal(has(t, x), has(t, y)) {
		t.Fatalf("behind a crash the disk has %x, not %x", has(t, x), has(t, y))
	}
}

// check: both tell the same, and so do their disks.
func (b *both) check(t *testing.T, d *disk.Disk) {
	t.Helper()
	b.checkDisks(t, d)
	switch {
	case b.p == nil:
	case b.p.dead:
		checkDead(t, b.w)
	default:
		checkLog(t, b.w, b.p.l, b.p.safe, b.p.room())
	}
	if t.Failed() {
		t.FailNow()
	}
}

// hands gives numbers, one behind the other, of bytes; noughts when they are at an end.
type hands []byte

func (h *hands) next() int {
	if len(*h) == 0 {
		return 0
	}
	c := (*h)[0]
	*h = (*h)[1:]
	return int(c)
}

// body: one that mostly has room, but now and then just has, or just has not, or is long.
func (h *hands) body(room int) []byte {
	seed := h.next()
	switch c := h.next(); {
	case c >= 250:
		return text(seed, api.MaxBody+c-252)
	case c >= 220:
		return text(seed, max(0, room-overhead+c-222))
	case c >= 200:
		return make([]byte, c%40)
	default:
		return text(seed, c%(room/4+3))
	}
}

// list: records for a Reset.
func (h *hands) list(size int) [][]byte {
	var l [][]byte
	for range h.next() % 6 {
		l = append(l, h.body(size/2))
	}
	return l
}

// keep: of each write that waits some, none, or all.
func (h *hands) keep(n int) []int {
	var l []int
	for range n {
		switch c := h.next(); {
		case c < 120:
			l = append(l, api.Sector)
		case c < 150:
			l = append(l, 0)
		default:
			l = append(l, c%(api.Sector+4)-2)
		}
	}
	return l
}

// act does one act, which bytes say, to both; d is the disk of the log that is built.
func (b *both) act(t *testing.T, d *disk.Disk, h *hands) *both {
	t.Helper()
	size := (d.Sectors() - 2) / 2 * api.Sector
	c := h.next() % 32
	if b.p == nil && c < 24 {
		c = 26
	}
	var err, want api.Errno
	switch {
	case c < 13:
		body := h.body(b.p.room())
		before := slices.Clone(body)
		err, want = b.w.Append(body), b.p.append(before)
		if !bytes.Equal(body, before) {
			t.Fatalf("Append changed %x into %x", before, body)
		}
		clear(body)
	case c < 18:
		err, want = b.w.Sync(), b.p.sync()
	case c < 24:
		l := h.list(size)
		err, want = b.w.Reset(l), b.p.reset(l)
		for _, body := range l {
			clear(body)
		}
	case c < 27:
		keep := h.keep(d.Waiting())
		d.Crash(keep)
		b.d.Crash(keep)
		return openBoth(t, d, b.d)
	case c < 28:
		return openBoth(t, d, b.d)
	case c < 30:
		n := h.next() % 14
		d.Arm(n)
		b.d.Arm(n)
	default:
		return b.scribble(t, d, h)
	}
	if err != want {
		t.Fatalf("the act %d: %d, not %d", c, err, want)
	}
	return b
}

// scribble writes something to a sector of both disks, ahead of a crash, and opens them.
func (b *both) scribble(t *testing.T, d *disk.Disk, h *hands) *both {
	t.Helper()
	at := h.next() % d.Sectors()
	var s []byte
	switch c := h.next(); c % 4 {
	case 0:
		s = plainPut(1, binary.AppendUvarint(nil, uint64(at%2+c/8*2)))
	case 1:
		s = plainPut(byte(c/4%4), text(c, c%16))
	case 2:
		s = text(c, api.Sector)
	case 3:
		s = plainPut(1, binary.AppendUvarint(nil, 1<<62-uint64(c/4%5)))
	}
	s = padded(s, 1)
	if err, want := d.Write(at, s), b.d.Write(at, s); err != want {
		t.Fatalf("Write: %d, not %d", err, want)
	}
	keep := slices.Repeat([]int{api.Sector}, d.Waiting())
	d.Crash(keep)
	b.d.Crash(keep)
	return openBoth(t, d, b.d)
}

// play does all acts that bytes say.
func play(t *testing.T, row []byte) {
	h := hands(row)
	sectors := 6 + h.next()%16
	if h.next()%16 == 0 {
		sectors = 6 + h.next()*2
	}
	d := fresh(t, sectors)
	b := openBoth(t, d, d.Clone())
	for n := 0; len(h) > 0 && n < 1000; n++ {
		b = b.act(t, d, &h)
		b.check(t, d)
	}
}

func TestDrawnActs(t *testing.T) {
	for seed := range 500 {
		draw := rand.New(rand.NewSource(int64(seed)))
		row := make([]byte, draw.Intn(700))
		draw.Read(row)
		play(t, row)
	}
}

func FuzzWal(f *testing.F) {
	f.Add([]byte("a row of acts, as the bytes say"))
	f.Add(bytes.Repeat([]byte{1, 9, 14, 20, 25}, 40))
	f.Add(slices.Repeat([]byte{5, 7, 200, 4, 3, 1, 18, 6, 28, 12, 30}, 20))
	f.Fuzz(play)
}
