package accept_test

import (
	"bytes"
	"encoding/binary"
	"math/rand"
	"slices"
	"testing"

	"seawall/accept"
	"seawall/api"
	"seawall/disk"
	"seawall/store"
)

// plain is an acceptor as the chapter's words tell it, on a store of its own: nothing but that is kept, and what was promised and voted is found in it anew each time.
type plain struct {
	s    *store.Store
	dead bool
}

func plainBytes(b api.Ballot) string {
	return string(binary.AppendUvarint(binary.AppendUvarint(nil, b.N), uint64(b.Node)))
}

func plainKey(slot uint64) string {
	return "v" + string(binary.BigEndian.AppendUint64(nil, slot))
}

func plainRight(b api.Ballot) bool {
	return b.N > 0 && 0 <= b.Node && b.Node <= 11
}

func plainLess(a, b api.Ballot) bool {
	return a.N < b.N || a.N == b.N && a.Node < b.Node
}

// plainBallot: what a text begins with, and the rest. Numbers are read in any form they have: whether it is the right one is found by writing them again.
func plainBallot(s string) (api.Ballot, string, bool) {
	n, used := binary.Uvarint([]byte(s))
	if used <= 0 {
		return none, "", false
	}
	node, more := binary.Uvarint([]byte(s[used:]))
	if more <= 0 || node > 11 {
		return none, "", false
	}
	b := ballot(n, int(node))
	rest := s[used+more:]
	return b, rest, plainRight(b) && plainBytes(b)+rest == s
}

// plainOpen: the acceptor of a disk.
func plainOpen(d *disk.Disk) (*plain, api.Errno) {
	s, err := store.Open(d)
	if err != api.OK {
		return nil, err
	}
	p := &plain{s: s}
	for key, value := range s.All() {
		b, rest, ok := plainBallot(value)
		switch {
		case !ok:
			return nil, api.ErrVote
		case key == "p" && rest == "":
		case len(key) != 9 || key[0] != 'v' || key == plainKey(0) || len(rest) > 100 || plainLess(p.promised(), b):
			return nil, api.ErrVote
		}
	}
	return p, api.OK
}

func (p *plain) promised() api.Ballot {
	if p.dead {
		return none
	}
	value, _ := p.s.Get("p")
	b, _, _ := plainBallot(value)
	return b
}

func (p *plain) votes(from uint64) []api.Vote {
	var l []api.Vote
	if p.dead {
		return nil
	}
	for key, value := range p.s.All() {
		if key == "p" {
			continue
		}
		if slot := binary.BigEndian.Uint64([]byte(key[1:])); slot >= from {
			b, rest, _ := plainBallot(value)
			l = append(l, api.Vote{Slot: slot, Ballot: b, Value: []byte(rest)})
		}
	}
	return l
}

// end: an error of the store; behind ErrDead all is over.
func (p *plain) end(err api.Errno) api.Errno {
	p.dead = p.dead || err == api.ErrDead
	return err
}

// safely: a batch, and a Sync.
func (p *plain) safely(l []api.Change) api.Errno {
	if err := p.end(p.s.Do(l)); err != api.OK {
		return err
	}
	return p.end(p.s.Sync())
}

func (p *plain) prepare(b api.Ballot, from uint64) ([]api.Vote, api.Ballot, api.Errno) {
	switch {
	case !plainRight(b):
		return nil, none, api.ErrArg
	case p.dead:
		return nil, none, api.ErrDead
	case plainLess(b, p.promised()):
		return nil, p.promised(), api.ErrBallot
	case b != p.promised():
		if err := p.safely([]api.Change{{Key: "p", Value: plainBytes(b)}}); err != api.OK {
			return nil, none, err
		}
	}
	return p.votes(from), b, api.OK
}

func (p *plain) accept(v api.Vote) (api.Ballot, api.Errno) {
	b := v.Ballot
	switch {
	case !plainRight(b) || v.Slot == 0 || len(v.Value) > 100:
		return none, api.ErrArg
	case p.dead:
		return none, api.ErrDead
	case plainLess(b, p.promised()):
		return p.promised(), api.ErrBallot
	}
	l := []api.Change{{Key: "p", Value: plainBytes(b)}, {Key: plainKey(v.Slot), Value: plainBytes(b) + string(v.Value)}}
	if err := p.safely(l); err != api.OK {
		return none, err
	}
	return b, api.OK
}

func (p *plain) trim(upto uint64) (int, api.Errno) {
	if p.dead {
		return 0, api.ErrDead
	}
	var l []api.Change
	for _, v := range p.votes(0) {
		if v.Slot <= upto && len(l) < 32 {
			l = append(l, api.Change{Key: plainKey(v.Slot), Gone: true})
		}
	}
	if len(l) == 0 {
		return 0, api.OK
	}
	if err := p.end(p.s.Do(l)); err != api.OK {
		return 0, err
	}
	return len(l), api.OK
}

// both is an acceptor and a plain one (nil, if they could not be opened), each on a disk of its own: to both the same is done.
type both struct {
	a     *accept.Acceptor
	p     *plain
	d, c  *disk.Disk
	early []api.Vote // was told some time ago
	was   []api.Vote // what it was
}

// openBoth opens the acceptors of two disks that have the same.
func openBoth(t *testing.T, d, c *disk.Disk) *both {
	t.Helper()
	a, err := accept.Open(d)
	p, want := plainOpen(c)
	if err != want || (a != nil) != (err == api.OK) {
		t.Fatalf("Open: %v, %d, not %d", a, err, want)
	}
	return &both{a: a, p: p, d: d, c: c}
}

// crash: to both disks, and both are opened again.
func (b *both) crash(t *testing.T, keep []int) *both {
	t.Helper()
	b.d.Crash(keep)
	b.c.Crash(keep)
	return openBoth(t, b.d, b.c)
}

// has: all bytes of a disk.
func has(t *testing.T, d *disk.Disk) []byte {
	t.Helper()
	var all []byte
	for at := range d.Sectors() {
		s, err := d.Read(at)
		good(t, "Read", err)
		all = append(all, s...)
	}
	return all
}

// check: both tell the same, what was told some time ago is as it was, and their disks have the same, also behind a crash.
func (b *both) check(t *testing.T) {
	t.Helper()
	if b.d.Up() != b.c.Up() || b.d.Waiting() != b.c.Waiting() {
		t.Fatalf("up %t, %d wait, not %t, %d", b.d.Up(), b.d.Waiting(), b.c.Up(), b.c.Waiting())
	}
	x, y := b.d.Clone(), b.c.Clone()
	keep := []int{32, 9, 32, 0, 32, 20, 32, 32, 32, 3, 32}
	x.Crash(keep)
	y.Crash(keep)
	if !bytes.Equal(has(t, x), has(t, y)) {
		t.Fatalf("behind a crash the disk has %x, not %x", has(t, x), has(t, y))
	}
	if b.p != nil {
		if b.a.Promised() != b.p.promised() {
			t.Fatalf("Promised: %v, not %v", b.a.Promised(), b.p.promised())
		}
		for _, slot := range []uint64{0, 1, 3, 200, 1 << 63} {
			if l := b.a.Votes(slot); !sameVotes(l, b.p.votes(slot)) {
				t.Fatalf("Votes(%d): %v, not %v", slot, l, b.p.votes(slot))
			}
		}
	}
	if !sameVotes(b.early, b.was) {
		t.Fatalf("what was told is %v, not %v", b.early, b.was)
	}
}

// hands gives numbers, one behind the other, of bytes; noughts when they are at an end.
type hands []byte

func (h *hands) next() int {
	if len(*h) == 0 {
		return 0
	}
	c := (*h)[0]
	*h = (*h)[1:]
	return int(c)
}

// ballot: mostly one near another; now and then one far off, or one that may not be.
func (h *hands) ballot(near api.Ballot) api.Ballot {
	switch n := h.next(); {
	case n < 60:
		return near
	case n < 130:
		return ballot(near.N+uint64(n%2), n%12)
	case n < 200:
		return ballot(1+uint64(n%50), n/2%12)
	case n < 235:
		return ballot(near.N-uint64(n%2), near.Node+n%3-1)
	case n < 245:
		return ballot(1<<(n%10*7), n%12)
	}
	return ballot(uint64(h.next()%3), h.next()-20)
}

// slot: mostly one of few; now and then a great one.
func (h *hands) slot() uint64 {
	switch n := h.next(); {
	case n < 230:
		return uint64(n % 41)
	case n < 245:
		return uint64(n) << (h.next() % 57)
	default:
		return 1<<64 - 1 - uint64(n%3)
	}
}

// value: mostly a short one; now and then of the greatest size, or of more.
func (h *hands) value() []byte {
	n := h.next()
	switch {
	case n < 200:
		return []byte(text(n, n%20))
	case n < 250:
		return []byte(text(n, n-150))
	}
	return []byte(text(n, n-155))
}

// keep: of each write that waits some, none, or all.
func (h *hands) keep(n int) []int {
	var l []int
	for range n {
		switch c := h.next(); {
		case c < 120:
			l = append(l, api.Sector)
		case c < 150:
			l = append(l, 0)
		default:
			l = append(l, c%(api.Sector+4)-2)
		}
	}
	return l
}

// act does one act, which bytes say, to both.
func (b *both) act(t *testing.T, h *hands) *both {
	t.Helper()
	c := h.next() % 64
	if b.p == nil {
		c = 48
	}
	switch {
	case c < 12:
		b.prepare(t, h)
	case c < 38:
		b.accept(t, h)
	case c < 46:
		upto := h.slot()
		n, err := b.a.Trim(upto)
		if want, wantErr := b.p.trim(upto); n != want || err != wantErr {
			t.Fatalf("Trim(%d): %d, %d, not %d, %d", upto, n, err, want, wantErr)
		}
	case c < 54:
		return b.crash(t, h.keep(b.d.Waiting()))
	case c < 58:
		n := h.next() % 24
		b.d.Arm(n)
		b.c.Arm(n)
	case c < 63:
		b.early = b.a.Votes(h.slot())
		b.was = copied(b.early)
	default:
		return b.scribble(t, h)
	}
	return b
}

func (b *both) prepare(t *testing.T, h *hands) {
	t.Helper()
	x, slot := h.ballot(b.p.promised()), h.slot()
	l, promised, err := b.a.Prepare(x, slot)
	wantVotes, want, wantErr := b.p.prepare(x, slot)
	if !sameVotes(l, wantVotes) || promised != want || err != wantErr {
		t.Fatalf("Prepare(%v, %d): %v, %v, %d, not %v, %v, %d", x, slot, l, promised, err, wantVotes, want, wantErr)
	}
	b.early, b.was = l, wantVotes
}

func (b *both) accept(t *testing.T, h *hands) {
	t.Helper()
	v := api.Vote{Slot: h.slot(), Ballot: h.ballot(b.p.promised()), Value: h.value()}
	before := bytes.Clone(v.Value)
	promised, err := b.a.Accept(v)
	if !bytes.Equal(v.Value, before) {
		t.Fatalf("Accept made %q of %q", v.Value, before)
	}
	if want, wantErr := b.p.accept(v); promised != want || err != wantErr {
		t.Fatalf("Accept(%v): %v, %d, not %v, %d", v, promised, err, want, wantErr)
	}
	clear(v.Value)
}

// scribble lays a pair that may be none of an acceptor's into the stores of both disks, behind a crash.
func (b *both) scribble(t *testing.T, h *hands) *both {
	t.Helper()
	key, value := plainKey(h.slot()), plainBytes(h.ballot(b.p.promised()))+string(h.value())
	switch n := h.next(); {
	case n < 30:
		key = "p"
	case n < 60:
		key, value = "p", plainBytes(h.ballot(b.p.promised()))
	case n < 90:
		key += string([]byte{byte(n)})
	case n < 120:
		key = key[:n%8]
	case n < 180:
		value = value[:n%4%(len(value)+1)]
	case n < 220:
		value = string([]byte{byte(h.next()), byte(h.next()), byte(h.next())})
	}
	for _, d := range []*disk.Disk{b.d, b.c} {
		d.Crash(nil)
		s, err := store.Open(d)
		good(t, "Open of the store", err)
		s.Do([]api.Change{{Key: key, Value: value}})
		s.Sync()
	}
	return b.crash(t, nil)
}

// play does all acts that bytes say. A disk on which there is no acceptor any more is let go for a new one.
func play(t *testing.T, row []byte) {
	h := hands(row)
	sectors := 6 + h.next()%60
	if h.next()%4 == 0 {
		sectors = 60 + h.next()
	}
	var b *both
	for n := 0; len(h) > 0 && n < 1000; n++ {
		if b == nil || b.p == nil && b.d.Up() {
			d := fresh(t, sectors)
			b = openBoth(t, d, d.Clone())
		}
		b = b.act(t, &h)
		b.check(t)
	}
}

func TestDrawnActs(t *testing.T) {
	for seed := range 250 {
		draw := rand.New(rand.NewSource(int64(seed)))
		row := make([]byte, draw.Intn(900))
		draw.Read(row)
		play(t, row)
	}
}

// Less and Right, by the words, of ballots near one another and far off.
func TestDrawnBallots(t *testing.T) {
	draw := rand.New(rand.NewSource(9))
	row := make([]byte, 4000)
	draw.Read(row)
	h := hands(row)
	a := ballot(3, 3)
	for len(h) > 0 {
		b := h.ballot(a)
		if accept.Right(b) != plainRight(b) || accept.Less(a, b) != plainLess(a, b) || accept.Less(b, a) != plainLess(b, a) {
			t.Fatalf("%v and %v: Right %t, Less %t, %t", a, b, accept.Right(b), accept.Less(a, b), accept.Less(b, a))
		}
		a = b
	}
}

func FuzzAccept(f *testing.F) {
	f.Add([]byte("a row of acts, as the bytes say"))
	f.Add(bytes.Repeat([]byte{1, 9, 14, 20, 45, 3}, 40))
	f.Add(slices.Repeat([]byte{5, 7, 200, 40, 3, 63, 18, 6, 48, 12, 55}, 20))
	f.Fuzz(play)
}

// checkPair: Open answers as the words tell it, of a store with these two pairs.
func checkPair(t *testing.T, promise, key, value string) {
	t.Helper()
	d := fresh(t, 60)
	s, err := store.Open(d)
	good(t, "Open of the store", err)
	s.Do([]api.Change{{Key: "p", Value: promise}})
	s.Do([]api.Change{{Key: key, Value: value}})
	b := openBoth(t, d, d.Clone())
	b.check(t)
}

// A promise and a vote of which each byte is another one in turn.
func TestSpoilt(t *testing.T) {
	promise, key, value := "\xac\x02\x05", slot1, "\xac\x02\x05x"
	for c := range 256 {
		for _, mask := range []int{c, c | 0x80<<8} {
			for i := range promise {
				checkPair(t, spoilt(promise, i, mask), key, value)
			}
			for i := range key {
				checkPair(t, promise, spoilt(key, i, mask), value)
			}
			for i := range value {
				checkPair(t, promise, key, spoilt(value, i, mask))
			}
		}
	}
}

// spoilt: a byte is another one; with more than a byte's bits a byte more stands there.
func spoilt(s string, at, mask int) string {
	if mask > 0xff {
		return s[:at] + string([]byte{byte(mask)}) + s[at:]
	}
	return s[:at] + string([]byte{byte(mask)}) + s[at+1:]
}

func FuzzOpen(f *testing.F) {
	f.Add("\x01\x00", slot1, "\x01\x00x")
	f.Add("\xac\x02\x0b", slotLast, "\xac\x02\x0b")
	f.Add(nMost+"\x0b", "p", nMost+"\x0b")
	f.Fuzz(checkPair)
}
