package wal_test

import (
	"bytes"
	"math/rand"
	"slices"
	"testing"

	"seawall/api"
	"seawall/disk"
	"seawall/wal"
)

// promise is what must be there behind a crash: the first ones of all, at least the safe ones; or, if a Reset was cut off, all of next.
type promise struct {
	all   [][]byte
	safe  int
	next  [][]byte
	reset bool // cut off
	cut   bool // the power went in some call
}

// kept: is the promise kept by what is there?
func (p *promise) kept(got [][]byte) bool {
	if p.reset && slices.EqualFunc(got, p.next, bytes.Equal) {
		return true
	}
	return len(got) >= p.safe && len(got) <= len(p.all) && slices.EqualFunc(got, p.all[:len(got)], bytes.Equal)
}

// counts: may what was asked for be there? Not if it was refused, and not behind a call in which the power went.
func (p *promise) counts(t *testing.T, err api.Errno) bool {
	t.Helper()
	switch {
	case err != api.OK && err != api.ErrDead && err != api.ErrFull, p.cut && err != api.ErrDead:
		t.Fatalf("%d, power gone ahead of it: %t", err, p.cut)
	case p.cut || err == api.ErrFull:
		return false
	}
	p.cut = err == api.ErrDead
	return true
}

func (p *promise) append(t *testing.T, w *wal.Wal, body []byte) {
	t.Helper()
	if p.counts(t, w.Append(body)) {
		p.all = append(p.all, body)
	}
}

func (p *promise) sync(t *testing.T, w *wal.Wal) {
	t.Helper()
	if p.counts(t, w.Sync()) && !p.cut {
		p.safe = len(p.all)
	}
}

func (p *promise) renew(t *testing.T, w *wal.Wal, l [][]byte) {
	t.Helper()
	switch {
	case !p.counts(t, w.Reset(l)):
	case p.cut:
		p.next, p.reset = l, true
	default:
		p.all, p.safe = l, len(l)
	}
}

// checkKept: the promise is kept behind a crash of the disk's clone, and opening again, be it behind another crash, changes nothing.
func (p *promise) checkKept(t *testing.T, d *disk.Disk, keep []int) {
	t.Helper()
	c := d.Clone()
	c.Crash(keep)
	w := open(t, c)
	got := w.Records()
	if !p.kept(got) {
		t.Fatalf("behind a crash that keeps %d: %q, of %q, %d of them safe, or %q, %t", keep, got, p.all, p.safe, p.next, p.reset)
	}
	room := (c.Sectors()-2)/2*api.Sector - len(records(t, got...))
	checkLog(t, w, got, len(got), room)
	checkLog(t, open(t, c), got, len(got), room)
	c.Crash(nil)
	checkLog(t, open(t, c), got, len(got), room)
}

// keeps: of n writes that wait, one is torn at each place, those ahead of it are there, and those behind it are lost, or there; so also all, and none.
func keeps(n int) [][]int {
	l := [][]int{nil, slices.Repeat([]int{api.Sector}, n)}
	for i := range n {
		for torn := range api.Sector + 1 {
			front := append(slices.Repeat([]int{api.Sector}, i), torn)
			l = append(l, front, append(slices.Clone(front), slices.Repeat([]int{api.Sector}, n-i-1)...))
		}
	}
	return l
}

// steps does what a log is for, till the power goes.
func steps(t *testing.T, w *wal.Wal) *promise {
	t.Helper()
	p := &promise{}
	for i := range 4 {
		p.append(t, w, text(i, i*9))
		if i == 1 {
			p.sync(t, w)
		}
	}
	p.renew(t, w, [][]byte{text(7, 30), text(8, 3), text(9, 0)})
	p.append(t, w, text(10, 40))
	p.append(t, w, text(11, 5))
	p.sync(t, w)
	p.append(t, w, text(12, 20))
	p.renew(t, w, [][]byte{text(13, 45), text(14, 45)})
	p.append(t, w, text(15, 12))
	p.renew(t, w, nil)
	p.append(t, w, text(16, 50))
	p.append(t, w, text(17, 50))
	p.sync(t, w)
	return p
}

// The power goes at each act of a row of calls, and of the writes that wait then one is torn at each place.
func TestPowerGoesAnywhere(t *testing.T) {
	for n := 0; ; n++ {
		d := fresh(t, 13)
		w := open(t, d)
		d.Arm(n)
		p := steps(t, w)
		if d.Up() {
			if n < 45 {
				t.Errorf("%d acts in all", n)
			}
			return
		}
		for _, keep := range keeps(d.Waiting()) {
			p.checkKept(t, d, keep)
		}
	}
}

// One life behind the other on one disk: each begins with what the crash of the one before left, which is safe then.
func TestManyLives(t *testing.T) {
	for seed := range 60 {
		draw := rand.New(rand.NewSource(int64(seed)))
		d := fresh(t, 6+draw.Intn(14))
		for life := range 40 {
			w := open(t, d)
			l := w.Records()
			p := &promise{all: l, safe: len(l)}
			d.Arm(draw.Intn(30))
			for i := 0; d.Up() && i < 40; i++ {
				p.step(t, w, draw, life*50+i)
			}
			keep := drawnKeep(draw, d.Waiting())
			p.checkKept(t, d, keep)
			d.Crash(keep)
		}
	}
}

// step does one call.
func (p *promise) step(t *testing.T, w *wal.Wal, draw *rand.Rand, seed int) {
	t.Helper()
	switch draw.Intn(8) {
	case 0:
		p.sync(t, w)
	case 1:
		var l [][]byte
		for i := range draw.Intn(4) {
			l = append(l, text(seed+i, draw.Intn(30)))
		}
		p.renew(t, w, l)
	default:
		p.append(t, w, text(seed, draw.Intn(50)))
	}
}

// drawnKeep: of each write that waits nothing, a part, or all.
func drawnKeep(draw *rand.Rand, n int) []int {
	l := make([]int, n)
	for i := range l {
		switch draw.Intn(3) {
		case 0:
			l[i] = draw.Intn(api.Sector + 1)
		default:
			l[i] = api.Sector
		}
	}
	return l[:draw.Intn(n+1)]
}
