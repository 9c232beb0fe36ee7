package disk_test

import (
	"bytes"
	"math/rand"
	"slices"
	"testing"

	"seawall/api"
	"seawall/disk"
)

// plainWrite is a write that waits.
type plainWrite struct {
	at int
	b  []byte
}

// plain is a disk as the chapter's words tell it: what its sectors had, and what waits, is kept; what a sector has is found anew each time.
type plain struct {
	had   [][]byte
	waits []plainWrite
	up    bool
	armed bool
	acts  int // how many go well yet
}

func newPlain(sectors int) *plain {
	p := &plain{up: true}
	for range sectors {
		p.had = append(p.had, all(0))
	}
	return p
}

func (p *plain) powerGoes() bool {
	if !p.armed {
		return false
	}
	p.acts--
	if p.acts < 0 {
		p.up = false
	}
	return !p.up
}

func (p *plain) write(at int, b []byte) api.Errno {
	if !p.up {
		return api.ErrDead
	}
	if at < 0 || at >= len(p.had) || len(b) != api.Sector {
		return api.ErrSector
	}
	if p.powerGoes() {
		return api.ErrDead
	}
	p.waits = append(p.waits, plainWrite{at, slices.Clone(b)})
	return api.OK
}

func (p *plain) sync() api.Errno {
	if !p.up || p.powerGoes() {
		return api.ErrDead
	}
	for at := range p.had {
		p.had[at] = p.has(at)
	}
	p.waits = nil
	return api.OK
}

// has: what the last write of a sector that waits had, or, without one, what it had.
func (p *plain) has(at int) []byte {
	for _, w := range slices.Backward(p.waits) {
		if w.at == at {
			return w.b
		}
	}
	return p.had[at]
}

func (p *plain) read(at int) ([]byte, api.Errno) {
	if !p.up {
		return nil, api.ErrDead
	}
	if at < 0 || at >= len(p.had) {
		return nil, api.ErrSector
	}
	return p.has(at), api.OK
}

func (p *plain) arm(n int) {
	p.armed, p.acts = n >= 0, n
}

func (p *plain) crash(keep []int) {
	for i, w := range p.waits {
		b := slices.Clone(p.had[w.at])
		for j := range b {
			if i < len(keep) && j < keep[i] {
				b[j] = w.b[j]
			}
		}
		p.had[w.at] = b
	}
	p.waits = nil
	p.up, p.armed = true, false
}

func (p *plain) clone() *plain {
	c := *p
	c.had = slices.Clone(p.had)
	c.waits = slices.Clone(p.waits)
	return &c
}

// checkPlain: the disk tells what the plain one does, and would so behind a crash of its clone.
func checkPlain(t *testing.T, d *disk.Disk, p *plain) {
	t.Helper()
	checkTells(t, d, p)
	c, q := d.Clone(), p.clone()
	checkTells(t, c, q)
	keep := []int{0, 7, api.Sector, -1, 31, 50, 1}
	c.Crash(keep)
	q.crash(keep)
	checkTells(t, c, q)
	checkTells(t, d, p)
}

// checkTells: the disk tells what the plain one does, now.
func checkTells(t *testing.T, d *disk.Disk, p *plain) {
	t.Helper()
	if d.Up() != p.up || d.Waiting() != len(p.waits) || d.Sectors() != len(p.had) {
		t.Fatalf("up %t, %d wait, %d sectors, not %t, %d, %d", d.Up(), d.Waiting(), d.Sectors(), p.up, len(p.waits), len(p.had))
	}
	for at := -1; at <= len(p.had); at++ {
		b, err := d.Read(at)
		want, wantErr := p.read(at)
		if !bytes.Equal(b, want) || err != wantErr {
			t.Fatalf("Read(%d): %x, %d, not %x, %d", at, b, err, want, wantErr)
		}
	}
}

// hands gives numbers, one behind the other, of bytes; noughts when they are at an end.
type hands []byte

func (h *hands) next() int {
	if len(*h) == 0 {
		return 0
	}
	c := (*h)[0]
	*h = (*h)[1:]
	return int(c)
}

// place: a sector, or now and then none.
func (h *hands) place(sectors int) int {
	return h.next()%(sectors+2) - 1
}

// bytes: as many as a sector has, or now and then one more or less.
func (h *hands) bytes() []byte {
	c := h.next()
	switch c % 32 {
	case 30:
		return text(c)[1:]
	case 31:
		return append(text(c), 1)
	}
	return text(c)
}

// keep: a list of what is kept, of each some, none, or all.
func (h *hands) keep() []int {
	var l []int
	for range h.next() % 9 {
		l = append(l, h.next()%(api.Sector+6)-3)
	}
	return l
}

// act does one act, which bytes say, to a disk and to a plain one, and holds them against each other.
func act(t *testing.T, d *disk.Disk, p *plain, h *hands) {
	t.Helper()
	switch c := h.next() % 16; c {
	default:
		at, b := h.place(len(p.had)), h.bytes()
		before := slices.Clone(b)
		if err, want := d.Write(at, b), p.write(at, b); err != want {
			t.Fatalf("Write(%d) of %d bytes: %d, not %d", at, len(b), err, want)
		}
		if !bytes.Equal(b, before) {
			t.Fatalf("Write changed %x into %x", before, b)
		}
		clear(b)
	case 0, 1, 2:
		if err, want := d.Sync(), p.sync(); err != want {
			t.Fatalf("Sync: %d, not %d", err, want)
		}
	case 3, 4:
		n := h.next()%12 - 2
		d.Arm(n)
		p.arm(n)
	case 5, 6:
		keep := h.keep()
		d.Crash(keep)
		p.crash(keep)
	}
}

// play does all acts that bytes say; now and then it goes on with a clone, and the one that stays behind must stay as it was.
func play(t *testing.T, row []byte) {
	h := hands(row)
	sectors := h.next()%6 + 1
	d, p := fresh(t, sectors), newPlain(sectors)
	left, leftPlain := d.Clone(), p.clone()
	for n := 0; len(h) > 0 && n < 2000; n++ {
		if h.next()%8 == 0 {
			checkPlain(t, left, leftPlain)
			left, leftPlain = d, p
			d, p = d.Clone(), p.clone()
		}
		act(t, d, p, &h)
		checkPlain(t, d, p)
	}
	checkPlain(t, left, leftPlain)
}

func TestDrawnActs(t *testing.T) {
	for seed := range 300 {
		draw := rand.New(rand.NewSource(int64(seed)))
		row := make([]byte, draw.Intn(900))
		draw.Read(row)
		play(t, row)
	}
}

// Each byte of a sector is, behind a crash, what it was at the last sync, or what one of the writes that waited had there.
func TestBytesBehindCrashes(t *testing.T) {
	draw := rand.New(rand.NewSource(3))
	d := fresh(t, 3)
	for round := range 400 {
		var may [3][api.Sector][]byte
		for at := range may {
			b, _ := d.Read(at)
			for i, c := range b {
				may[at][i] = append(may[at][i], c)
			}
		}
		var keep []int
		for n := range draw.Intn(12) {
			at, b := draw.Intn(3), text(round*13+n)
			write(t, d, at, b)
			for i, c := range b {
				may[at][i] = append(may[at][i], c)
			}
			keep = append(keep, draw.Intn(api.Sector+3)-1)
		}
		crash(t, d, keep[:draw.Intn(len(keep)+1)]...)
		for at := range may {
			b, _ := d.Read(at)
			for i, c := range b {
				if !bytes.Contains(may[at][i], []byte{c}) {
					t.Fatalf("the byte %d of the sector %d: %d, none of %d", i, at, c, may[at][i])
				}
			}
		}
		if round%3 == 0 {
			sync(t, d)
		}
	}
}

// The power goes at each act of a row: what was synced ahead of it is there, with all that was kept.
func TestPowerGoesAnywhere(t *testing.T) {
	for n := range 40 {
		for _, keep := range [][]int{nil, {3}, {99, 99, 99}, {1, 40, -1}} {
			d, p := fresh(t, 4), newPlain(4)
			d.Arm(n)
			p.arm(n)
			for i := 0; d.Up(); i++ {
				var err, want api.Errno
				if i%4 == 3 {
					err, want = d.Sync(), p.sync()
				} else {
					err, want = d.Write(i*i%4, text(i)), p.write(i*i%4, text(i))
				}
				if err != want || i > n {
					t.Fatalf("Arm(%d), the act %d: %d, not %d", n, i, err, want)
				}
			}
			checkPlain(t, d, p)
			d.Crash(keep)
			p.crash(keep)
			checkPlain(t, d, p)
		}
	}
}

func FuzzDisk(f *testing.F) {
	f.Add([]byte("a row of acts, as the bytes say"))
	f.Add(bytes.Repeat([]byte{1, 9, 0, 3}, 30))
	f.Add(slices.Repeat([]byte{5, 7, 200, 4, 3, 1, 0, 6, 8, 12}, 20))
	f.Fuzz(play)
}
