package rlog_test

import (
	"bytes"
	"math"
	"math/rand"
	"testing"

	"seawall/api"
	"seawall/rlog"
)

// plain is a log as the chapter's words tell it: what is kept stands in a map, and slots are gone through one by one.
type plain struct {
	applied uint64
	kept    map[uint64]string
}

func (p *plain) has(slot uint64) bool {
	_, ok := p.kept[slot]
	return ok
}

func (p *plain) learn(slot uint64, value []byte) api.Errno {
	switch {
	case slot == 0 || slot == 1<<64-1:
		return api.ErrArg
	case len(value) > 100:
		return api.ErrLong
	case p.has(slot) && p.kept[slot] != string(value):
		return api.ErrTwice
	case p.has(slot) || p.applied >= slot:
		return api.OK
	case len(p.kept) == 4096:
		return api.ErrFull
	}
	p.kept[slot] = string(value)
	return api.OK
}

func (p *plain) apply() (api.Entry, bool) {
	if !p.has(p.applied + 1) {
		return api.Entry{}, false
	}
	p.applied++
	return entry(p.applied, p.kept[p.applied]), true
}

func (p *plain) next() uint64 {
	slot := p.applied + 1
	for p.has(slot) {
		slot++
	}
	return slot
}

func (p *plain) top() uint64 {
	top := p.applied
	for slot := range p.kept {
		top = max(top, slot)
	}
	return top
}

func (p *plain) holes(most int) []uint64 {
	var l []uint64
	top := p.top()
	for slot := p.applied + 1; slot < top && len(l) < most; slot++ {
		if !p.has(slot) {
			l = append(l, slot)
		}
	}
	return l
}

func (p *plain) catch(from uint64, most int) []api.Entry {
	var l []api.Entry
	for slot := from; p.has(slot) && len(l) < most; slot++ {
		l = append(l, entry(slot, p.kept[slot]))
	}
	return l
}

// drop: the entries up to a slot go; how many.
func (p *plain) drop(upto uint64) int {
	n := 0
	for slot := range p.kept {
		if slot <= upto {
			delete(p.kept, slot)
			n++
		}
	}
	return n
}

func (p *plain) trim(upto uint64) int {
	if upto > p.applied {
		upto = p.applied
	}
	return p.drop(upto)
}

func (p *plain) install(upto uint64) bool {
	if upto <= p.applied || upto == 1<<64-1 {
		return false
	}
	p.applied = upto
	p.drop(upto)
	return true
}

// both is a log and a plain one: to both the same is done.
type both struct {
	l      *rlog.Log
	p      *plain
	filled bool   // was it filled already?
	early  []byte // was told some time ago
	was    []byte // what it was
}

// tell: this was told just now.
func (b *both) tell(value []byte) {
	b.early, b.was = value, bytes.Clone(value)
}

// check: both tell the same, and what was told some time ago is as it was.
func (b *both) check(t *testing.T) {
	t.Helper()
	checkAt(t, b.l, b.p.applied, b.p.next(), b.p.top())
	for _, most := range []int{-1, 0, 1, 3, 20} {
		checkHoles(t, b.l, most, b.p.holes(most)...)
		for _, from := range []uint64{0, 1, b.p.applied - 3, b.p.applied, b.p.applied + 1, b.p.applied + 2, b.p.top(), last, math.MaxUint64} {
			checkCatch(t, b.l, from, most, b.p.catch(from, most)...)
		}
	}
	if !bytes.Equal(b.early, b.was) {
		t.Errorf("what was told is %q, not %q", b.early, b.was)
	}
	if t.Failed() {
		t.FailNow()
	}
}

// act does one act, which bytes say, to both.
func (b *both) act(t *testing.T, h *hands) {
	t.Helper()
	switch c := h.next() % 64; {
	case c < 34:
		slot, value := h.slot(b.p.applied), h.value()
		checkLearn(t, b.l, slot, string(value), b.p.learn(slot, value))
	case c < 46:
		e, ok := b.l.Apply()
		if want, wantOK := b.p.apply(); !sameEntry(e, want) || ok != wantOK {
			t.Errorf("Apply: %v, %t, not %v, %t", e, ok, want, wantOK)
		}
		b.tell(e.Value)
	case c < 52:
		from := h.slot(b.p.applied)
		checkCatch(t, b.l, from, math.MaxInt, b.p.catch(from, math.MaxInt)...)
		for _, e := range b.l.Catch(from, math.MaxInt) {
			b.tell(e.Value)
		}
	case c < 58:
		upto := h.slot(b.p.applied)
		checkTrim(t, b.l, upto, b.p.trim(upto))
	case c < 61:
		upto := h.slot(b.p.applied)
		checkInstall(t, b.l, upto, b.p.install(upto))
	case c == 61 && !b.filled && h.next() < 8: // seldom: a full log takes its time
		b.fill(t, 1+uint64(h.next()%4))
	}
}

// fill: as many slots but one as may be, from a little above the applied one on.
func (b *both) fill(t *testing.T, gap uint64) {
	t.Helper()
	if b.p.applied > 1<<63 {
		return
	}
	b.filled = true
	for slot := b.p.applied + gap; len(b.p.kept) < api.MaxKept-1; slot++ {
		if !b.p.has(slot) {
			checkLearn(t, b.l, slot, "", b.p.learn(slot, nil))
		}
	}
}

// hands gives numbers, one behind the other, of bytes; noughts when they are at an end.
type hands []byte

func (h *hands) next() int {
	if len(*h) == 0 {
		return 0
	}
	c := (*h)[0]
	*h = (*h)[1:]
	return int(c)
}

// slot: mostly one of a few around one; now and then one far off.
func (h *hands) slot(near uint64) uint64 {
	switch c := h.next(); {
	case c < 230:
		return near + uint64(c%12) - 4
	case c < 240:
		return uint64(c % 3)
	case c < 252:
		return math.MaxUint64 - uint64(c%4)
	default:
		return 1 << (c % 64)
	}
}

// value: mostly one of two; now and then of the greatest size, or of more.
func (h *hands) value() []byte {
	switch n := h.next(); {
	case n < 235:
		return []byte("ab")[n%16/15:]
	case n < 248:
		return []byte(text(n, 100))
	default:
		return []byte(text(n, 101))
	}
}

// play does all acts that bytes say; a first byte that is great lets a log begin near the end of all slots.
func play(t *testing.T, row []byte) {
	h := hands(row)
	b := &both{l: rlog.New(), p: &plain{kept: map[uint64]string{}}}
	if c := h.next(); c > 200 {
		upto := math.MaxUint64 - uint64(c-200)
		checkInstall(t, b.l, upto, b.p.install(upto))
	}
	b.check(t)
	for n := 0; len(h) > 0 && n < 300; n++ {
		b.act(t, &h)
		b.check(t)
	}
}

func TestDrawnActs(t *testing.T) {
	for seed := range 1000 {
		draw := rand.New(rand.NewSource(int64(seed)))
		row := make([]byte, 20+draw.Intn(600))
		draw.Read(row)
		play(t, row)
	}
}

func FuzzRlog(f *testing.F) {
	f.Add([]byte("a row of acts, as the bytes say, of one log"))
	f.Add(bytes.Repeat([]byte{0, 5, 0, 40, 0, 6, 0, 53, 3, 0, 4, 16}, 20))
	f.Add(bytes.Repeat([]byte{210, 0, 5, 0, 40, 0, 6, 0, 59, 7, 61, 2, 3}, 10))
	f.Fuzz(play)
}
