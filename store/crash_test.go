package store_test

import (
	"math/rand"
	"slices"
	"strconv"
	"testing"

	"seawall/api"
	"seawall/disk"
	"seawall/store"
)

// promise is what must be there behind a crash: what comes of some first ones of all batches, of at least the safe ones.
type promise struct {
	all  [][]api.Change
	safe int
	cut  bool // the power went in some call
}

// numbered: a batch of several changes, which says itself the how many-th it is, so that no two of its parts, and no two rows of batches, come to the same.
func numbered(n int, more ...api.Change) []api.Change {
	name := strconv.Itoa(n)
	l := []api.Change{{Key: "first", Value: name}}
	l = append(l, more...)
	return append(l, api.Change{Key: "last", Value: name})
}

// counts: does a call that answers that change what may be there? Not if it was refused, and not behind one in which the power went.
func (p *promise) counts(t *testing.T, err api.Errno) bool {
	t.Helper()
	if err != api.OK && err != api.ErrDead && err != api.ErrFull || p.cut && err != api.ErrDead {
		t.Fatalf("%d, power gone ahead of it: %t", err, p.cut)
	}
	if p.cut {
		return false
	}
	p.cut = err == api.ErrDead
	return err != api.ErrFull
}

// do: the next batch.
func (p *promise) do(t *testing.T, s *store.Store, more ...api.Change) {
	t.Helper()
	l := numbered(len(p.all)+1, more...)
	if p.counts(t, s.Do(l)) {
		p.all = append(p.all, l)
	}
	p.trust(t, s)
}

// sync: by Sync, or by Checkpoint, which makes all safe too.
func (p *promise) sync(t *testing.T, s *store.Store, by func() api.Errno) {
	t.Helper()
	if p.counts(t, by()) && !p.cut {
		p.safe = len(p.all)
	}
	p.trust(t, s)
}

// trust: what a store tells now; those that it does not call waiting must be there behind any crash.
func (p *promise) trust(t *testing.T, s *store.Store) {
	t.Helper()
	if p.cut {
		checkOver(t, s, api.ErrDead)
		return
	}
	checkStore(t, s, replay(p.all), s.Waiting())
	if safe := len(p.all) - s.Waiting(); safe < p.safe {
		t.Fatalf("%d of %d are safe, but %d wait", p.safe, len(p.all), s.Waiting())
	} else {
		p.safe = safe
	}
}

// checkKept: the promise is kept behind a crash of the disk's clone, and neither opening again nor a checkpoint changes what is there.
func (p *promise) checkKept(t *testing.T, d *disk.Disk, keep []int) int {
	t.Helper()
	c := d.Clone()
	c.Crash(keep)
	s := open(t, c)
	last, _ := s.Get("last")
	n, _ := strconv.Atoi(last)
	if n < p.safe || n > len(p.all) {
		t.Fatalf("behind a crash that keeps %d there are %d batches, of %d, %d of them safe", keep, n, len(p.all), p.safe)
	}
	want := replay(p.all[:n])
	checkStore(t, s, want, 0)
	c.Crash(nil)
	s = open(t, c)
	checkStore(t, s, want, 0)
	if err := s.Checkpoint(); err != api.OK && err != api.ErrFull {
		t.Fatalf("Checkpoint: %d", err)
	}
	checkStore(t, s, want, 0)
	c.Crash(nil)
	checkStore(t, open(t, c), want, 0)
	if t.Failed() {
		t.FailNow()
	}
	return n
}

// keeps: of n writes that wait, one is torn at each place, those ahead of it are there, and those behind it are lost, or there; so also all, and none.
func keeps(n int) [][]int {
	l := [][]int{nil, slices.Repeat([]int{api.Sector}, n)}
	for i := range n {
		for torn := range api.Sector + 1 {
			front := append(slices.Repeat([]int{api.Sector}, i), torn)
			l = append(l, front, append(slices.Clone(front), slices.Repeat([]int{api.Sector}, n-i-1)...))
		}
	}
	return l
}

// steps does what a store is for, till the power goes.
func steps(t *testing.T, s *store.Store) *promise {
	t.Helper()
	p := &promise{}
	p.do(t, s, api.Change{Key: "a", Value: "1"}, api.Change{Key: "b", Value: text(1, 20)})
	p.do(t, s, api.Change{Key: "a", Gone: true})
	p.sync(t, s, s.Sync)
	p.do(t, s, api.Change{Key: "c", Value: "2"}, api.Change{Key: "c", Gone: true}, api.Change{Key: "d"})
	p.do(t, s, api.Change{Key: "b", Value: "3"})
	p.sync(t, s, s.Checkpoint)
	for i := range 8 {
		p.do(t, s, api.Change{Key: "e" + strconv.Itoa(i%3), Value: text(i, i*3)})
	}
	p.sync(t, s, s.Sync)
	p.do(t, s, api.Change{Key: "f", Value: text(2, 128)}, api.Change{Key: "g", Value: text(3, 128)})
	p.do(t, s, api.Change{Key: "e0", Gone: true})
	p.sync(t, s, s.Checkpoint)
	p.sync(t, s, s.Checkpoint)
	p.do(t, s, api.Change{Key: "e1", Gone: true}, api.Change{Key: "e2", Gone: true})
	p.do(t, s)
	return p
}

// The power goes at each act of a row of calls, and of the writes that wait then one is torn at each place.
func TestPowerGoesAnywhere(t *testing.T) {
	found := 0
	for n := 0; ; n++ {
		d := fresh(t, 20)
		s := open(t, d)
		d.Arm(n)
		p := steps(t, s)
		if d.Up() {
			if n < 60 || found == 0 {
				t.Errorf("%d acts in all, %d crashes that kept more than was safe", n, found)
			}
			return
		}
		for _, keep := range keeps(d.Waiting()) {
			if p.checkKept(t, d, keep) > p.safe {
				found++
			}
		}
	}
}

// All that waits between two calls may be lost, or not: without the power having gone in a call.
func TestCrashBetween(t *testing.T) {
	d := fresh(t, 30)
	s := open(t, d)
	p := &promise{}
	for i := range 30 {
		p.do(t, s, api.Change{Key: text(i%5, 2), Value: text(i, i%11), Gone: false})
		for _, keep := range keeps(d.Waiting()) {
			p.checkKept(t, d, keep)
		}
		if i%7 == 3 {
			p.sync(t, s, s.Sync)
		}
	}
}

// One life behind the other on one disk: each begins with what the crash of the one before left, which is safe then.
func TestManyLives(t *testing.T) {
	for seed := range 60 {
		draw := rand.New(rand.NewSource(int64(seed)))
		d := fresh(t, 16+draw.Intn(24))
		p := &promise{}
		for range 30 {
			s := open(t, d)
			last, _ := s.Get("last")
			n, _ := strconv.Atoi(last)
			p = &promise{all: p.all[:n], safe: n}
			d.Arm(draw.Intn(60))
			for i := 0; d.Up() && i < 40; i++ {
				p.step(t, s, draw)
			}
			keep := drawnKeep(draw, d.Waiting())
			p.checkKept(t, d, keep)
			d.Crash(keep)
		}
	}
}

// step does one call.
func (p *promise) step(t *testing.T, s *store.Store, draw *rand.Rand) {
	t.Helper()
	switch draw.Intn(10) {
	case 0:
		p.sync(t, s, s.Sync)
	case 1:
		p.sync(t, s, s.Checkpoint)
	default:
		var more []api.Change
		for range draw.Intn(4) {
			c := api.Change{Key: text(draw.Intn(5), 1), Gone: draw.Intn(3) == 0}
			if !c.Gone {
				c.Value = text(draw.Intn(99), draw.Intn(12))
			}
			more = append(more, c)
		}
		p.do(t, s, more...)
	}
}

// drawnKeep: of each write that waits nothing, a part, or all.
func drawnKeep(draw *rand.Rand, n int) []int {
	l := make([]int, n)
	for i := range l {
		switch draw.Intn(3) {
		case 0:
			l[i] = draw.Intn(api.Sector + 1)
		default:
			l[i] = api.Sector
		}
	}
	return l[:draw.Intn(n+1)]
}
