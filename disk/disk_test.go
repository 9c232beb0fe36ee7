package disk_test

import (
	"bytes"
	"math"
	"slices"
	"testing"

	"seawall/api"
	"seawall/disk"
)

const (
	lowest  = math.MinInt
	highest = math.MaxInt
)

// fresh: a disk of that many sectors.
func fresh(t *testing.T, sectors int) *disk.Disk {
	t.Helper()
	d, err := disk.New(sectors)
	if d == nil || err != api.OK {
		t.Fatalf("New(%d): %v, %d", sectors, d, err)
	}
	return d
}

// all: a sector's bytes, each of them c.
func all(c byte) []byte {
	return bytes.Repeat([]byte{c}, api.Sector)
}

// front: n bytes of one sector, and what another one has behind them.
func front(n int, of, over []byte) []byte {
	return slices.Concat(of[:n], over[n:])
}

// text: a sector's bytes, which differ, and differ from those of another seed.
func text(seed int) []byte {
	b := make([]byte, api.Sector)
	for i := range b {
		b[i] = byte(seed*37 + i*5 + 1)
	}
	return b
}

// write: that goes well.
func write(t *testing.T, d *disk.Disk, at int, b []byte) {
	t.Helper()
	if err := d.Write(at, b); err != api.OK {
		t.Fatalf("Write(%d): %d", at, err)
	}
}

// sync: that goes well, and nothing waits then.
func sync(t *testing.T, d *disk.Disk) {
	t.Helper()
	if err := d.Sync(); err != api.OK || d.Waiting() != 0 {
		t.Fatalf("Sync: %d, %d wait", err, d.Waiting())
	}
}

// crash: the power is there behind it, and nothing waits.
func crash(t *testing.T, d *disk.Disk, keep ...int) {
	t.Helper()
	d.Crash(keep)
	if !d.Up() || d.Waiting() != 0 {
		t.Fatalf("behind Crash(%d): up %t, %d wait", keep, d.Up(), d.Waiting())
	}
}

// checkHas: the disk is up, and its sectors have that.
func checkHas(t *testing.T, d *disk.Disk, want ...[]byte) {
	t.Helper()
	if !d.Up() || d.Sectors() != len(want) {
		t.Errorf("up %t, %d sectors, not %d", d.Up(), d.Sectors(), len(want))
	}
	for at, w := range want {
		if b, err := d.Read(at); !bytes.Equal(b, w) || err != api.OK {
			t.Errorf("Read(%d): %x, %d, not %x", at, b, err, w)
		}
	}
}

// checkDead: the power is gone, and so each call says.
func checkDead(t *testing.T, d *disk.Disk, waiting int) {
	t.Helper()
	if d.Up() || d.Waiting() != waiting {
		t.Errorf("up %t, %d wait, not %d", d.Up(), d.Waiting(), waiting)
	}
	for _, at := range []int{0, d.Sectors() - 1, d.Sectors(), -1, lowest, highest} {
		if b, err := d.Read(at); len(b) != 0 || err != api.ErrDead {
			t.Errorf("Read(%d) without power: %x, %d", at, b, err)
		}
		for _, b := range [][]byte{all(9), nil, all(9)[1:]} {
			if err := d.Write(at, b); err != api.ErrDead {
				t.Errorf("Write(%d) of %d bytes without power: %d", at, len(b), err)
			}
		}
	}
	if err := d.Sync(); err != api.ErrDead {
		t.Errorf("Sync without power: %d", err)
	}
	if d.Up() || d.Waiting() != waiting {
		t.Errorf("then: up %t, %d wait, not %d", d.Up(), d.Waiting(), waiting)
	}
}

func TestNew(t *testing.T) {
	for _, n := range []int{1, 2, 6, 60, api.MaxSectors - 1, api.MaxSectors} {
		d := fresh(t, n)
		checkHas(t, d, slices.Repeat([][]byte{all(0)}, n)...)
		if d.Waiting() != 0 {
			t.Errorf("New(%d): %d wait", n, d.Waiting())
		}
	}
	for _, n := range []int{0, -1, lowest, api.MaxSectors + 1, 1 << 31, highest} {
		if d, err := disk.New(n); d != nil || err != api.ErrArg {
			t.Errorf("New(%d): %v, %d", n, d, err)
		}
	}
}

func TestNil(t *testing.T) {
	var d *disk.Disk
	for _, at := range []int{0, 1, -1, lowest, highest} {
		for _, b := range [][]byte{all(1), nil, all(1)[1:]} {
			if err := d.Write(at, b); err != api.ErrNil {
				t.Errorf("Write(%d) of nil: %d", at, err)
			}
		}
		if b, err := d.Read(at); len(b) != 0 || err != api.ErrNil {
			t.Errorf("Read(%d) of nil: %x, %d", at, b, err)
		}
		d.Arm(at)
		d.Crash([]int{at})
	}
	d.Crash(nil)
	if err := d.Sync(); err != api.ErrNil {
		t.Errorf("Sync of nil: %d", err)
	}
	if d.Sectors() != 0 || d.Up() || d.Waiting() != 0 || d.Clone() != nil {
		t.Errorf("of nil: %d sectors, up %t, %d wait, %v", d.Sectors(), d.Up(), d.Waiting(), d.Clone())
	}
}

// Each sector has what was written to it last, and no other one's.
func TestWriteAndRead(t *testing.T) {
	d := fresh(t, 3)
	write(t, d, 1, text(1))
	checkHas(t, d, all(0), text(1), all(0))
	write(t, d, 0, text(2))
	write(t, d, 1, text(3))
	checkHas(t, d, text(2), text(3), all(0))
	write(t, d, 2, all(0xff))
	if d.Waiting() != 4 {
		t.Errorf("%d wait", d.Waiting())
	}
	sync(t, d)
	checkHas(t, d, text(2), text(3), all(0xff))
	write(t, d, 1, text(3))
	if d.Waiting() != 1 {
		t.Errorf("%d wait, though one was written, if as it was", d.Waiting())
	}
	sync(t, d)
	sync(t, d)
	checkHas(t, d, text(2), text(3), all(0xff))
}

func TestLastSector(t *testing.T) {
	d := fresh(t, api.MaxSectors)
	write(t, d, api.MaxSectors-1, text(1))
	sync(t, d)
	write(t, d, api.MaxSectors-1, text(2))
	write(t, d, api.MaxSectors-2, text(3))
	crash(t, d, 5)
	want := slices.Repeat([][]byte{all(0)}, api.MaxSectors)
	want[api.MaxSectors-1] = front(5, text(2), text(1))
	checkHas(t, d, want...)
}

// Where there is no sector, or not as many bytes, nothing is written, and that is no act.
func TestErrSector(t *testing.T) {
	d := fresh(t, 2)
	write(t, d, 0, text(1))
	d.Arm(0)
	for _, at := range []int{-1, lowest, 2, 3, api.MaxSectors, 1 << 32, highest} {
		if err := d.Write(at, all(2)); err != api.ErrSector {
			t.Errorf("Write(%d): %d", at, err)
		}
		if b, err := d.Read(at); len(b) != 0 || err != api.ErrSector {
			t.Errorf("Read(%d): %x, %d", at, b, err)
		}
	}
	for _, n := range []int{0, 1, api.Sector - 1, api.Sector + 1, 2 * api.Sector, 1000} {
		for _, at := range []int{0, 1, 2} {
			if err := d.Write(at, make([]byte, n)); err != api.ErrSector {
				t.Errorf("Write(%d) of %d bytes: %d", at, n, err)
			}
		}
	}
	if err := d.Write(1, nil); err != api.ErrSector {
		t.Errorf("Write of nil: %d", err)
	}
	checkHas(t, d, text(1), all(0))
	if d.Waiting() != 1 {
		t.Errorf("%d wait", d.Waiting())
	}
}

// Of a write that waits that many first bytes stay as keep says.
func TestCrashKeeps(t *testing.T) {
	for _, x := range []struct{ keep, n int }{
		{lowest, 0}, {-2, 0}, {-1, 0}, {0, 0}, {1, 1}, {2, 2}, {16, 16},
		{api.Sector - 1, api.Sector - 1}, {api.Sector, api.Sector},
		{api.Sector + 1, api.Sector}, {1 << 40, api.Sector}, {highest, api.Sector},
	} {
		d := fresh(t, 2)
		write(t, d, 1, text(1))
		sync(t, d)
		write(t, d, 1, text(2))
		crash(t, d, x.keep)
		checkHas(t, d, all(0), front(x.n, text(2), text(1)))
	}
}

// keep goes by writes, in their order: not by sectors, and not by those of old.
func TestCrashKeepsInOrder(t *testing.T) {
	for _, x := range []struct {
		keep []int
		want [][]byte
	}{
		{nil, [][]byte{all(1), all(0)}},
		{[]int{}, [][]byte{all(1), all(0)}},
		{[]int{7}, [][]byte{front(7, all(2), all(1)), all(0)}},
		{[]int{0, 7}, [][]byte{all(1), front(7, all(3), all(0))}},
		{[]int{9, 7, 4}, [][]byte{front(4, all(4), front(9, all(2), all(1))), front(7, all(3), all(0))}},
		{[]int{4, -1, 9}, [][]byte{front(9, all(4), all(1)), all(0)}},
		{[]int{99, 99, 99}, [][]byte{all(4), all(3)}},
		{[]int{99, 0, 0, 5}, [][]byte{all(2), all(0)}},
		{[]int{0, 0, 3, 99, 99, 99}, [][]byte{front(3, all(4), all(1)), all(0)}},
	} {
		d := fresh(t, 2)
		write(t, d, 1, all(0))
		write(t, d, 0, all(1))
		sync(t, d)
		write(t, d, 0, all(2))
		write(t, d, 1, all(3))
		write(t, d, 0, all(4))
		if d.Waiting() != 3 {
			t.Errorf("%d wait", d.Waiting())
		}
		crash(t, d, x.keep...)
		checkHas(t, d, x.want...)
	}
}

// What a crash left waits no more, so no later one takes it away.
func TestCrashAfterCrash(t *testing.T) {
	d := fresh(t, 2)
	write(t, d, 0, all(1))
	write(t, d, 1, all(2))
	crash(t, d, 3)
	want := [][]byte{front(3, all(1), all(0)), all(0)}
	crash(t, d)
	checkHas(t, d, want...)
	crash(t, d, 99, 99, 99)
	checkHas(t, d, want...)
	write(t, d, 0, all(4))
	checkHas(t, d, all(4), all(0))
	crash(t, d, 1)
	checkHas(t, d, front(1, all(4), want[0]), all(0))
	sync(t, d)
	crash(t, d, 99)
	checkHas(t, d, front(1, all(4), want[0]), all(0))
}

// What was synced, and not written since, is there behind each crash.
func TestSyncedStays(t *testing.T) {
	d := fresh(t, 4)
	for at := range 4 {
		write(t, d, at, text(at))
	}
	sync(t, d)
	for n := range 2 * api.Sector {
		write(t, d, 2, text(n+10))
		write(t, d, 2, text(n+11))
		crash(t, d, n, n-3)
		for _, at := range []int{0, 1, 3} {
			if b, err := d.Read(at); !bytes.Equal(b, text(at)) || err != api.OK {
				t.Fatalf("Read(%d): %x, %d", at, b, err)
			}
		}
	}
}

// acts does so many writes and syncs, which all go well, by turns.
func acts(t *testing.T, d *disk.Disk, n int) {
	t.Helper()
	for i := range n {
		if i%3 == 2 {
			sync(t, d)
		} else {
			write(t, d, i%2, text(i))
		}
	}
}

// n acts go well; the one behind them isn't done, be it a write or a sync.
func TestArm(t *testing.T) {
	for n := range 8 {
		for _, last := range []string{"write", "sync"} {
			d := fresh(t, 2)
			write(t, d, 0, text(20))
			d.Arm(n)
			acts(t, d, n)
			before, waiting := d.Clone(), d.Waiting()
			if !d.Up() {
				t.Fatalf("Arm(%d): not up ahead of the act behind them", n)
			}
			var err api.Errno
			if last == "write" {
				err = d.Write(1, text(30))
			} else {
				err = d.Sync()
			}
			if err != api.ErrDead {
				t.Errorf("Arm(%d), then a %s: %d", n, last, err)
			}
			checkDead(t, d, waiting)
			keep := []int{5, 6, 7, 8, 9}
			before.Crash(keep)
			crash(t, d, keep...)
			checkSame(t, d, before)
			acts(t, d, 9)
		}
	}
}

// checkSame: two disks that are up have the same.
func checkSame(t *testing.T, d, c *disk.Disk) {
	t.Helper()
	if d.Up() != c.Up() || d.Waiting() != c.Waiting() || d.Sectors() != c.Sectors() {
		t.Errorf("up %t, %d wait, %d sectors; up %t, %d, %d", d.Up(), d.Waiting(), d.Sectors(), c.Up(), c.Waiting(), c.Sectors())
	}
	for at := range d.Sectors() {
		a, err := d.Read(at)
		b, err2 := c.Read(at)
		if !bytes.Equal(a, b) || err != err2 {
			t.Errorf("Read(%d): %x, %d; %x, %d", at, a, err, b, err2)
		}
	}
}

// Reads, questions, clones, and writes that may not be, are no acts.
func TestNoActs(t *testing.T) {
	d := fresh(t, 2)
	d.Arm(2)
	for range 5 {
		d.Read(0)
		d.Read(2)
		d.Write(2, all(1))
		d.Write(0, all(1)[1:])
		d.Up()
		d.Waiting()
		d.Sectors()
		d.Clone().Write(0, all(1))
	}
	acts(t, d, 2)
	if err := d.Write(0, all(3)); err != api.ErrDead {
		t.Errorf("the third act: %d", err)
	}
	checkDead(t, d, 2)
}

// The last Arm counts, from where it was said on.
func TestArmAgain(t *testing.T) {
	for _, none := range []int{-1, -2, lowest} {
		d := fresh(t, 2)
		d.Arm(1)
		d.Arm(none)
		acts(t, d, 12)
		d.Arm(0)
		d.Arm(none)
		acts(t, d, 12)
		d.Arm(5)
		acts(t, d, 3)
		d.Arm(4)
		acts(t, d, 4)
		checkGoes(t, d)
	}
	d := fresh(t, 2)
	for _, n := range []int{highest, highest - 1, 1 << 32} {
		d.Arm(n)
		acts(t, d, 12)
	}
	d.Arm(0)
	checkGoes(t, d)
}

// checkGoes: the power goes at the next act.
func checkGoes(t *testing.T, d *disk.Disk) {
	t.Helper()
	waiting := d.Waiting()
	if err := d.Write(0, all(7)); err != api.ErrDead {
		t.Errorf("the act at which the power goes: %d", err)
	}
	checkDead(t, d, waiting)
}

// When the power is gone, Arm doesn't bring it; a crash does, and nothing is armed then.
func TestArmWithoutPower(t *testing.T) {
	for _, n := range []int{-1, 0, 1, 5, lowest, highest} {
		d := fresh(t, 2)
		write(t, d, 1, all(1))
		d.Arm(0)
		checkGoes(t, d)
		d.Arm(n)
		checkDead(t, d, 1)
		crash(t, d, 2)
		checkHas(t, d, all(0), front(2, all(1), all(0)))
		acts(t, d, 12)
	}
}

// A crash ahead of the act at which the power would have gone lifts that too.
func TestCrashDisarms(t *testing.T) {
	for n := range 3 {
		d := fresh(t, 2)
		d.Arm(n)
		crash(t, d)
		acts(t, d, 12)
	}
}

// What waits when the power goes at a sync is lost, or kept, as if there had been none.
func TestPowerGoesAtSync(t *testing.T) {
	d := fresh(t, 2)
	write(t, d, 0, all(1))
	sync(t, d)
	write(t, d, 0, all(2))
	write(t, d, 1, all(3))
	d.Arm(0)
	if err := d.Sync(); err != api.ErrDead {
		t.Errorf("Sync: %d", err)
	}
	checkDead(t, d, 2)
	c := d.Clone()
	checkDead(t, c, 2)
	crash(t, d)
	checkHas(t, d, all(1), all(0))
	crash(t, c, 4, 99)
	checkHas(t, c, front(4, all(2), all(1)), all(3))
}

// A clone is as the disk is, armed too, and what is done to either the other doesn't tell.
func TestClone(t *testing.T) {
	d := fresh(t, 2)
	write(t, d, 0, all(1))
	sync(t, d)
	write(t, d, 0, all(2))
	d.Arm(3)
	c := d.Clone()
	checkSame(t, c, d)
	write(t, c, 0, all(3))
	write(t, c, 1, all(4))
	checkHas(t, d, all(2), all(0))
	write(t, d, 1, all(5))
	checkHas(t, c, all(3), all(4))
	if d.Waiting() != 2 || c.Waiting() != 3 {
		t.Errorf("%d and %d wait", d.Waiting(), c.Waiting())
	}
	sync(t, c)
	checkGoes(t, c)
	sync(t, d)
	write(t, d, 1, all(6))
	checkGoes(t, d)
	crash(t, c, 99)
	crash(t, d, 8)
	checkHas(t, c, all(3), all(4))
	checkHas(t, d, all(2), front(8, all(6), all(5)))
}

// Writes that wait on a disk and on its clone stand in no room that both have.
func TestClonesWaitApart(t *testing.T) {
	for n := range 20 {
		d := fresh(t, 2)
		acts(t, d, n)
		write(t, d, 0, all(1))
		c := d.Clone()
		write(t, d, 1, all(2))
		write(t, c, 1, all(3))
		write(t, d, 0, all(4))
		write(t, c, 0, all(5))
		keep := slices.Repeat([]int{api.Sector}, 10)
		crash(t, d, keep...)
		crash(t, c, keep...)
		checkHas(t, d, all(4), all(2))
		checkHas(t, c, all(5), all(3))
	}
}

// What is handed in is neither changed nor kept.
func TestHandedIn(t *testing.T) {
	d := fresh(t, 2)
	b := text(1)
	write(t, d, 0, b)
	if !bytes.Equal(b, text(1)) {
		t.Errorf("Write changed %x into %x", text(1), b)
	}
	clear(b)
	checkHas(t, d, text(1), all(0))
	sync(t, d)
	b = text(2)
	write(t, d, 1, b)
	clear(b)
	keep := []int{-3, 40, 2}
	c := d.Clone()
	c.Crash(keep[1:])
	if !slices.Equal(keep, []int{-3, 40, 2}) {
		t.Errorf("Crash changed keep into %d", keep)
	}
	checkHas(t, c, text(1), text(2))
	wide := slices.Concat(text(3), text(4), text(5))
	write(t, d, 0, wide[api.Sector:2*api.Sector])
	if !bytes.Equal(wide, slices.Concat(text(3), text(4), text(5))) {
		t.Errorf("Write changed what is beside %x", wide)
	}
	checkHas(t, d, text(4), text(2))
}

// What is read is the reader's own, with the room behind it.
func TestReadIsNew(t *testing.T) {
	d := fresh(t, 2)
	write(t, d, 0, text(1))
	sync(t, d)
	write(t, d, 1, text(2))
	a, _ := d.Read(0)
	b, _ := d.Read(0)
	clear(a)
	_ = append(a, all(9)...)
	if !bytes.Equal(b, text(1)) {
		t.Errorf("two that were read share: %x", b)
	}
	_ = append(b[:0], all(8)...)
	w, _ := d.Read(1)
	clear(w[:cap(w)])
	checkHas(t, d, text(1), text(2))
	crash(t, d, 99)
	checkHas(t, d, text(1), text(2))
}
