package store_test

import (
	"bytes"
	"math/rand"
	"slices"
	"testing"

	"seawall/api"
	"seawall/disk"
	"seawall/store"
	"seawall/wal"
)

// plain is a store as the chapter's words tell it, on a log of its own: nothing but the log is kept, and what a key has is found anew each time from all records.
type plain struct {
	w    *wal.Wal
	dead bool
}

// plainOpen: the store of a disk.
func plainOpen(d *disk.Disk) (*plain, api.Errno) {
	w, err := wal.Open(d)
	if err != api.OK {
		return nil, err
	}
	for _, b := range w.Records() {
		if _, err := plainDecode(b); err != api.OK {
			return nil, api.ErrBatch
		}
	}
	return &plain{w: w}, api.OK
}

// replay: what comes of batches, one behind the other, by rising keys.
func replay(batches [][]api.Change) []api.Pair {
	var l []api.Pair
	for _, c := range slices.Concat(batches...) {
		at := 0
		for at < len(l) && l[at].Key < c.Key {
			at++
		}
		if at < len(l) && l[at].Key == c.Key {
			l = slices.Delete(l, at, at+1)
		}
		if !c.Gone {
			l = slices.Insert(l, at, api.Pair{Key: c.Key, Value: c.Value})
		}
	}
	return l
}

func (p *plain) pairs() []api.Pair {
	var batches [][]api.Change
	for _, b := range p.w.Records() {
		l, _ := plainDecode(b)
		batches = append(batches, l)
	}
	return replay(batches)
}

func (p *plain) waiting() int {
	return len(p.w.Records()) - p.w.Safe()
}

// end: an error of the log; behind ErrDead all is over.
func (p *plain) end(err api.Errno) api.Errno {
	p.dead = p.dead || err == api.ErrDead
	return err
}

func (p *plain) do(l []api.Change) api.Errno {
	b, err := plainEncode(l)
	switch {
	case p.dead:
		return api.ErrDead
	case err != api.OK:
		return err
	}
	if err := p.w.Append(b); err != api.ErrFull {
		return p.end(err)
	}
	if err := p.checkpoint(); err != api.OK {
		return err
	}
	return p.end(p.w.Append(b))
}

func (p *plain) sync() api.Errno {
	if p.dead {
		return api.ErrDead
	}
	return p.end(p.w.Sync())
}

func (p *plain) checkpoint() api.Errno {
	if p.dead {
		return api.ErrDead
	}
	var bodies [][]byte
	for _, x := range p.pairs() {
		bodies = append(bodies, plainBytes(set(x.Key, x.Value)))
	}
	return p.end(p.w.Reset(bodies))
}

// both is a store and a plain one (nil, if they could not be opened), each on a disk of its own: to both the same is done.
type both struct {
	s    *store.Store
	p    *plain
	d, c *disk.Disk
	late func(func(string, string) bool) // was asked for some time ago
	was  []api.Pair                      // what it must tell
}

// openBoth opens the stores of two disks that have the same.
func openBoth(t *testing.T, d, c *disk.Disk) *both {
	t.Helper()
	s, err := store.Open(d)
	p, want := plainOpen(c)
	if err != want || (s != nil) != (err == api.OK) {
		t.Fatalf("Open: %v, %d, not %d", s, err, want)
	}
	return &both{s: s, p: p, d: d, c: c}
}

// crash: to both disks, and both are opened again.
func (b *both) crash(t *testing.T, keep []int) *both {
	t.Helper()
	b.d.Crash(keep)
	b.c.Crash(keep)
	return openBoth(t, b.d, b.c)
}

// has: all bytes of a disk.
func has(t *testing.T, d *disk.Disk) []byte {
	t.Helper()
	var all []byte
	for at := range d.Sectors() {
		s, err := d.Read(at)
		good(t, "Read", err)
		all = append(all, s...)
	}
	return all
}

// check: both tell the same, what was asked for some time ago is told as it was, and their disks have the same, also behind a crash.
func (b *both) check(t *testing.T) {
	t.Helper()
	if b.d.Up() != b.c.Up() || b.d.Waiting() != b.c.Waiting() {
		t.Fatalf("up %t, %d wait, not %t, %d", b.d.Up(), b.d.Waiting(), b.c.Up(), b.c.Waiting())
	}
	x, y := b.d.Clone(), b.c.Clone()
	keep := []int{32, 9, 32, 0, 32, 20, 32, 32, 32, 3, 32}
	x.Crash(keep)
	y.Crash(keep)
	if !bytes.Equal(has(t, x), has(t, y)) {
		t.Fatalf("behind a crash the disk has %x, not %x", has(t, x), has(t, y))
	}
	if b.p != nil {
		checkStore(t, b.s, b.p.pairs(), b.p.waiting())
	}
	if b.late != nil && !slices.Equal(told(b.late), b.was) {
		t.Errorf("told later: %q, not %q", told(b.late), b.was)
	}
	if t.Failed() {
		t.FailNow()
	}
}

// hands gives numbers, one behind the other, of bytes; noughts when they are at an end.
type hands []byte

func (h *hands) next() int {
	if len(*h) == 0 {
		return 0
	}
	c := (*h)[0]
	*h = (*h)[1:]
	return int(c)
}

// change: one of few keys, mostly with a short value; now and then it may not stand in a batch.
func (h *hands) change() api.Change {
	c := api.Change{Key: text(h.next()%7, 1+h.next()%3)}
	switch n := h.next(); {
	case n < 70:
		c.Gone = true
	case n < 220:
		c.Value = text(n, n%9)
	case n < 245:
		c.Value = text(n, n%129)
	case n < 250:
		c.Key, c.Value = text(n, 16), text(n, 128)
	default:
		c = []api.Change{{}, {Key: text(n, 17)}, {Key: "k", Value: text(n, 129)}, {Gone: true}, {Key: "k", Gone: true, Value: "v"}, {Value: "v"}}[n-250]
	}
	return c
}

// batch: mostly of few changes; now and then of as many as may be, or of more.
func (h *hands) batch() []api.Change {
	n := h.next()
	switch {
	case n < 230:
		n %= 5
	case n < 240:
		n = 30 + n%5
	default:
		n %= 20
	}
	var l []api.Change
	for range n {
		l = append(l, h.change())
	}
	return l
}

// keep: of each write that waits some, none, or all.
func (h *hands) keep(n int) []int {
	var l []int
	for range n {
		switch c := h.next(); {
		case c < 120:
			l = append(l, api.Sector)
		case c < 150:
			l = append(l, 0)
		default:
			l = append(l, c%(api.Sector+4)-2)
		}
	}
	return l
}

// act does one act, which bytes say, to both.
func (b *both) act(t *testing.T, h *hands) *both {
	t.Helper()
	c := h.next() % 32
	if b.p == nil {
		c = 25
	}
	var err, want api.Errno
	switch {
	case c < 16:
		l := h.batch()
		before := slices.Clone(l)
		err, want = b.s.Do(l), b.p.do(before)
		if !slices.Equal(l, before) {
			t.Fatalf("Do made %+v of %+v", l, before)
		}
		clear(l)
	case c < 20:
		err, want = b.s.Sync(), b.p.sync()
	case c < 23:
		err, want = b.s.Checkpoint(), b.p.checkpoint()
	case c < 27:
		return b.crash(t, h.keep(b.d.Waiting()))
	case c < 29:
		n := h.next() % 24
		b.d.Arm(n)
		b.c.Arm(n)
	case c < 31:
		b.late, b.was = b.s.All(), b.p.pairs()
	default:
		return b.scribble(t, h)
	}
	if err != want {
		t.Fatalf("the act %d: %d, not %d", c, err, want)
	}
	return b
}

// scribble appends a record that may be no batch to the logs of both disks, behind a crash.
func (b *both) scribble(t *testing.T, h *hands) *both {
	t.Helper()
	body := plainBytes(h.batch())
	if n := h.next(); n%4 == 0 {
		body[n%len(body)] ^= byte(1 + n/8)
	}
	body = body[:min(len(body), 60)]
	for _, d := range []*disk.Disk{b.d, b.c} {
		d.Crash(nil)
		openLog(t, d).Append(body)
	}
	return b.crash(t, slices.Repeat([]int{api.Sector}, b.d.Waiting()))
}

// play does all acts that bytes say. A disk on which there is no store any more is let go for a new one.
func play(t *testing.T, row []byte) {
	h := hands(row)
	sectors := 6 + h.next()%40
	if h.next()%8 == 0 {
		sectors = 6 + h.next()
	}
	var b *both
	for n := 0; len(h) > 0 && n < 1000; n++ {
		if b == nil || b.p == nil && b.d.Up() {
			d := fresh(t, sectors)
			b = openBoth(t, d, d.Clone())
		}
		b = b.act(t, &h)
		b.check(t)
	}
}

func TestDrawnActs(t *testing.T) {
	for seed := range 600 {
		draw := rand.New(rand.NewSource(int64(seed)))
		row := make([]byte, draw.Intn(900))
		draw.Read(row)
		play(t, row)
	}
}

func FuzzStore(f *testing.F) {
	f.Add([]byte("a row of acts, as the bytes say"))
	f.Add(bytes.Repeat([]byte{1, 9, 14, 20, 25}, 40))
	f.Add(slices.Repeat([]byte{5, 7, 200, 4, 3, 1, 18, 6, 28, 12, 30}, 20))
	f.Fuzz(play)
}

func FuzzDecode(f *testing.F) {
	f.Add([]byte("\x02\x01a\x00\x01x\x01b\x01"))
	f.Add([]byte("\x01\x01a\x00\x80\x00"))
	f.Add(plainBytes(sized(api.MaxBody, 9, api.Change{Key: "k"})))
	f.Add(plainBytes(sized(api.MaxBody+1, 9, api.Change{Key: "k"})))
	f.Fuzz(func(t *testing.T, b []byte) { checkDecode(t, b) })
}
