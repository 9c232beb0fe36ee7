package wal_test

import (
	"bytes"
	"slices"
	"testing"

	"seawall/api"
	"seawall/bin"
	"seawall/disk"
	"seawall/wal"
)

func TestOpenErrors(t *testing.T) {
	for n := 1; n <= 12; n++ {
		want, dead := api.OK, api.ErrDead
		if n < 6 {
			want, dead = api.ErrArea, api.ErrArea
		}
		d := fresh(t, n)
		if w, err := wal.Open(d); (w != nil) != (err == api.OK) || err != want {
			t.Errorf("Open of %d sectors: %v, %d, not %d", n, w, err, want)
		}
		checkDisk(t, d, make([]byte, n*api.Sector), 0)
		d.Arm(0)
		d.Sync()
		if w, err := wal.Open(d); w != nil || err != dead {
			t.Errorf("Open of %d sectors without power: %v, %d, not %d", n, w, err, dead)
		}
	}
}

func TestAreas(t *testing.T) {
	for _, n := range []int{6, 7, 8, 9, 10, 11, 60, 61, api.MaxSectors - 1, api.MaxSectors} {
		d := fresh(t, n)
		each := (n - 2) / 2
		for epoch := range 4 {
			w := open(t, d)
			checkLog(t, w, nil, 0, each*api.Sector)
			body := text(n, 7)
			good(t, "Append", w.Append(body))
			at := 2 + epoch%2*each
			if got := part(t, d, at, 1); !bytes.Equal(got, padded(records(t, body), 1)) {
				t.Errorf("%d sectors, epoch %d: the sector %d has %x", n, epoch, at, got)
			}
			good(t, "Reset", w.Reset(nil))
			checkLog(t, w, nil, 0, each*api.Sector)
			d.Crash(nil)
		}
		if n%2 == 1 {
			checkLastLeft(t, n)
		}
	}
}

// checkLastLeft: the sector behind both areas is nobody's, whatever it has.
func checkLastLeft(t *testing.T, n int) {
	t.Helper()
	d := fresh(t, n)
	lay(t, d, n-1, text(n, api.Sector))
	for range 3 {
		w := open(t, d)
		for w.Room() > overhead {
			good(t, "Append", w.Append(make([]byte, min(w.Room()-overhead, api.MaxBody))))
		}
		good(t, "Reset", w.Reset(w.Records()))
		if got := part(t, d, n-1, 1); !bytes.Equal(got, text(n, api.Sector)) {
			t.Errorf("%d sectors: the last one has %x", n, got)
		}
	}
}

// Opening once more changes neither the log nor the disk, and makes no act.
func TestOpenAgain(t *testing.T) {
	d := fresh(t, 10)
	w := open(t, d)
	l := bodies("a", "", "ccc")
	for _, b := range l {
		good(t, "Append", w.Append(b))
	}
	before := has(t, d)
	d.Arm(0)
	for range 3 {
		checkLog(t, open(t, d), l, 3, 94)
		checkDisk(t, d, before, 4)
	}
	d.Arm(-1)
	good(t, "Reset", w.Reset(append(l, nil)))
	before = has(t, d)
	d.Arm(0)
	for range 3 {
		checkLog(t, open(t, d), append(l, nil), 4, 84)
		checkDisk(t, d, before, 0)
	}
}

// epochs: the least and the greatest ones, and those at which a number's form grows.
func epochs() []uint64 {
	l := []uint64{0, 1, 2, 3, 127, 128, 129, 1<<32 - 1, 1 << 32, greatest - 1, greatest}
	for i := range 61 {
		l = append(l, 1<<i+4)
	}
	return l
}

// Each epoch has its head and its area by what is left of it by 2, up to the last one, which no log follows.
func TestEpochs(t *testing.T) {
	for _, epoch := range epochs() {
		side := int(epoch % 2)
		d := fresh(t, 10)
		lay(t, d, side, head(t, epoch))
		lay(t, d, 2+side*4, records(t, []byte("old")))
		lay(t, d, 2+(1-side)*4, records(t, []byte("other")))
		w := open(t, d)
		checkLog(t, w, bodies("old"), 1, 115)
		before := has(t, d)
		err := w.Reset(bodies("new"))
		if epoch == greatest {
			if err != api.ErrFull || w.Reset([][]byte{make([]byte, api.MaxBody+1)}) != api.ErrLong || w.Reset(nil) != api.ErrFull {
				t.Errorf("Reset behind the last epoch: %d", err)
			}
			checkLog(t, w, bodies("old"), 1, 115)
			checkDisk(t, d, before, 0)
			continue
		}
		good(t, "Reset", err)
		checkLog(t, w, bodies("new"), 1, 115)
		if got := part(t, d, 1-side, 1); !bytes.Equal(got, head(t, epoch+1)) {
			t.Errorf("the head behind %d: %x", epoch, got)
		}
		if got := part(t, d, side, 1); !bytes.Equal(got, before[side*api.Sector:][:api.Sector]) {
			t.Errorf("the head of %d: %x", epoch, got)
		}
		d.Crash(nil)
		checkLog(t, open(t, d), bodies("new"), 1, 115)
	}
}

// What is a head, and what is none; the greater epoch's one counts.
func TestHeads(t *testing.T) {
	frameOf := func(kind byte, body ...byte) []byte { return put(t, kind, body) }
	spoilt := func(at int) []byte {
		b := frameOf(1, 9)
		b[at] ^= 1
		return b
	}
	for i, x := range []struct {
		zero, one []byte
		epoch     uint64
	}{
		{nil, nil, 0},
		{frameOf(1, 0), nil, 0},
		{nil, frameOf(1, 1), 1},
		{frameOf(1, 2), frameOf(1, 1), 2},
		{frameOf(1, 2), frameOf(1, 3), 3},
		{frameOf(1, 100), frameOf(1, 5), 100},
		{frameOf(1, 6), frameOf(1, 0xff, 0x01), 255},
		{frameOf(1, 3), frameOf(1, 2), 0},
		{frameOf(1, 9), frameOf(1, 7), 7},
		{frameOf(1, 4), frameOf(1, 8), 4},
		{frameOf(2, 4), frameOf(0, 5), 0},
		{frameOf(1), frameOf(1, 1), 1},
		{frameOf(1, 4, 0), frameOf(1, 1), 1},
		{frameOf(1, 0x84), frameOf(1, 1), 1},
		{frameOf(1, 0x84, 0x00), frameOf(1, 1), 1},
		{frameOf(1, 2), frameOf(1, bin.PutUint(1<<62+1)...), 2},
		{frameOf(1, bin.PutUint(1<<62)...), frameOf(1, 1), 1},
		{frameOf(1, 2), frameOf(1, bin.PutUint(1<<64-1)...), 2},
		{frameOf(1, 2), frameOf(1, bin.PutUint(greatest)...), greatest},
		{append(frameOf(1, 4), "whatever"...), frameOf(1, 1), 4},
		{append(frameOf(1, 4), frameOf(1, 6)...), frameOf(1, 3), 4},
		{append([]byte{0}, frameOf(1, 4)...), frameOf(1, 1), 1},
		{frameOf(1, 2), spoilt(0), 2},
		{frameOf(1, 2), spoilt(1), 2},
		{frameOf(1, 2), spoilt(5), 2},
		{frameOf(1, 2), spoilt(6), 2},
		{frameOf(1, 2), spoilt(10), 2},
		{frameOf(1, 2), frameOf(1, make([]byte, 22)...), 2},
		{frameOf(1, 2), frameOf(1, 9)[:10], 2},
	} {
		d := fresh(t, 10)
		lay(t, d, 0, padded(x.zero, 1))
		lay(t, d, 1, padded(x.one, 1))
		lay(t, d, 2, records(t, []byte("zero")))
		lay(t, d, 6, records(t, []byte("one")))
		before := has(t, d)
		w := open(t, d)
		checkDisk(t, d, before, 0)
		want := "zero"
		if x.epoch%2 == 1 {
			want = "one"
		}
		if got := w.Records(); len(got) != 1 || string(got[0]) != want {
			t.Errorf("%d: %q, not that of %d", i, got, x.epoch)
		}
		if x.epoch == greatest {
			continue
		}
		good(t, "Reset", w.Reset(nil))
		if got := part(t, d, int(x.epoch+1)%2, 1); !bytes.Equal(got, head(t, x.epoch+1)) {
			t.Errorf("%d: the head behind %d: %x", i, x.epoch, got)
		}
	}
}

// tails: what may stand behind records that is none.
func tails(t *testing.T) [][]byte {
	spoilt := records(t, text(5, 9))
	spoilt[8] ^= 0x10
	sum := records(t, text(5, 9))
	sum[len(sum)-1]++
	return [][]byte{
		{1},
		{0, 1},
		{0xa7},
		{0xa7, 2, 0, 0, 0},
		put(t, 1, []byte("kind")),
		put(t, 3, nil),
		put(t, 0, nil),
		append(put(t, 1, nil), records(t, []byte("lost"))...),
		append(spoilt, records(t, []byte("lost"))...),
		append(sum, records(t, []byte("lost"))...),
		append([]byte{0}, records(t, []byte("lost"))...),
		append(make([]byte, 40), records(t, []byte("lost"))...),
		append(make([]byte, 70), 7),
		{0xa7, 2, 0, 0, 4, 1},
		{0xa7, 2, 0xff, 0xff, 0xff, 0xff, 1, 1, 1, 1, 1},
		{0xa7, 2, 0, 0, 1, 0, 5, 5, 5},
		text(9, 75),
	}
}

// The records end where a frame does that is one; what is behind is wiped, in the sectors that have something, and the disk is synced then.
func TestOpenWipes(t *testing.T) {
	for side := range 2 {
		for _, ahead := range [][][]byte{nil, bodies("a"), {text(1, 22)}, {text(1, 3), text(2, 9)}, {text(2, 30)}} {
			for _, tail := range tails(t) {
				checkWipe(t, side, ahead, tail)
			}
		}
	}
}

func checkWipe(t *testing.T, side int, ahead [][]byte, tail []byte) {
	t.Helper()
	d := fresh(t, 13)
	lay(t, d, side, head(t, uint64(side)))
	lay(t, d, 2+5*(1-side), text(3, 160))
	lay(t, d, 12, text(4, 32))
	good(t, "Write", d.Write(1-side, text(6, 32)))
	kept := records(t, ahead...)
	whole := padded(append(slices.Clone(kept), tail...), 5)
	want := padded(kept, 5)
	for i, s := range slices.Collect(slices.Chunk(whole, api.Sector)) {
		good(t, "Write", d.Write(2+5*side+i, s))
	}
	dirty := 0
	for i := range 5 {
		if !bytes.Equal(whole[i*32:i*32+32], want[i*32:i*32+32]) {
			dirty++
		}
	}
	after := slices.Clone(has(t, d))
	copy(after[(2+5*side)*32:], want)
	checkPowerInWipe(t, d, dirty, ahead)
	d.Arm(dirty + 1)
	w := open(t, d)
	checkLog(t, w, ahead, len(ahead), 160-len(kept))
	checkDisk(t, d, after, 0)
	if err := d.Sync(); err != api.ErrDead {
		t.Errorf("of %d acts one was left", dirty+1)
	}
	d.Crash(nil)
	checkDisk(t, d, after, 0)
}

// checkPowerInWipe: if the power goes at any act of the wiping, there is no log, and the next one that is opened has the same records.
func checkPowerInWipe(t *testing.T, d *disk.Disk, dirty int, ahead [][]byte) {
	t.Helper()
	for n := range dirty + 1 {
		for _, keep := range []int{0, 5, 32} {
			c := d.Clone()
			c.Sync()
			c.Arm(n)
			if w, err := wal.Open(c); w != nil || err != api.ErrDead {
				t.Errorf("the power goes at the act %d: %v, %d", n, w, err)
			}
			if c.Up() || c.Waiting() != n {
				t.Errorf("the power goes at the act %d: %d wait", n, c.Waiting())
			}
			c.Crash(slices.Repeat([]int{keep}, n))
			if got := open(t, c).Records(); !slices.EqualFunc(got, ahead, bytes.Equal) {
				t.Errorf("behind a wiping that was torn: %q, not %q", got, ahead)
			}
		}
	}
}

// A record behind one that was torn does not come again when another one takes that one's place.
func TestLostStaysLost(t *testing.T) {
	d := fresh(t, 12)
	w := open(t, d)
	good(t, "Append", w.Append(text(1, 22)))
	good(t, "Append", w.Append(text(2, 22)))
	good(t, "Append", w.Append(text(3, 22)))
	d.Crash([]int{0, 32, 32})
	w = open(t, d)
	checkLog(t, w, nil, 0, 160)
	d.Crash(nil)
	w = open(t, d)
	good(t, "Append", w.Append(text(4, 22)))
	checkLog(t, w, [][]byte{text(4, 22)}, 0, 128)
	good(t, "Sync", w.Sync())
	d.Crash(nil)
	checkLog(t, open(t, d), [][]byte{text(4, 22)}, 1, 128)
}
