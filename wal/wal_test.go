package wal_test

import (
	"bytes"
	"slices"
	"testing"

	"seawall/api"
	"seawall/bin"
	"seawall/disk"
	"seawall/frame"
	"seawall/wal"
)

const (
	overhead = 10 // bytes of a frame beside its body
	greatest = 1<<62 - 1
)

// fresh: a disk of that many sectors.
func fresh(t *testing.T, sectors int) *disk.Disk {
	t.Helper()
	d, err := disk.New(sectors)
	if err != api.OK {
		t.Fatalf("New(%d): %d", sectors, err)
	}
	return d
}

// open: a log that opens.
func open(t *testing.T, d *disk.Disk) *wal.Wal {
	t.Helper()
	w, err := wal.Open(d)
	if w == nil || err != api.OK {
		t.Fatalf("Open: %v, %d", w, err)
	}
	return w
}

// good: a call went well.
func good(t *testing.T, what string, err api.Errno) {
	t.Helper()
	if err != api.OK {
		t.Fatalf("%s: %d", what, err)
	}
}

// bodies: a list of texts, as bytes.
func bodies(texts ...string) [][]byte {
	var l [][]byte
	for _, s := range texts {
		l = append(l, []byte(s))
	}
	return l
}

// text: n bytes, which differ from those of another seed.
func text(seed, n int) []byte {
	b := make([]byte, n)
	for i := range b {
		b[i] = byte(seed*41 + i*7 + 3)
	}
	return b
}

// put: a frame's bytes.
func put(t *testing.T, kind byte, body []byte) []byte {
	t.Helper()
	b, err := frame.Put(kind, body)
	good(t, "frame.Put", err)
	return b
}

// records: the bytes of the records of bodies.
func records(t *testing.T, l ...[]byte) []byte {
	t.Helper()
	var b []byte
	for _, body := range l {
		b = append(b, put(t, 2, body)...)
	}
	return b
}

// padded: bytes, and noughts behind them, in as many sectors as said.
func padded(b []byte, sectors int) []byte {
	p := make([]byte, sectors*api.Sector)
	copy(p, b)
	return p
}

// head: the sector of an epoch's head.
func head(t *testing.T, epoch uint64) []byte {
	t.Helper()
	return padded(put(t, 1, bin.PutUint(epoch)), 1)
}

// lay writes bytes to a disk, from a sector on, with noughts behind them, and syncs it.
func lay(t *testing.T, d *disk.Disk, at int, b []byte) {
	t.Helper()
	b = padded(b, (len(b)+api.Sector-1)/api.Sector)
	for s := range slices.Chunk(b, api.Sector) {
		good(t, "Write", d.Write(at, s))
		at++
	}
	good(t, "Sync of the disk", d.Sync())
}

// has: all bytes of a disk.
func has(t *testing.T, d *disk.Disk) []byte {
	t.Helper()
	var all []byte
	for at := range d.Sectors() {
		b, err := d.Read(at)
		good(t, "Read", err)
		all = append(all, b...)
	}
	return all
}

// part: the bytes of some sectors of a disk.
func part(t *testing.T, d *disk.Disk, at, n int) []byte {
	t.Helper()
	return has(t, d)[at*api.Sector : (at+n)*api.Sector]
}

// checkLog: what a log tells.
func checkLog(t *testing.T, w *wal.Wal, want [][]byte, safe, room int) {
	t.Helper()
	if got := w.Records(); !slices.EqualFunc(got, want, bytes.Equal) {
		t.Errorf("Records: %q, not %q", got, want)
	}
	if w.Safe() != safe || w.Room() != room {
		t.Errorf("Safe %d, Room %d, not %d, %d", w.Safe(), w.Room(), safe, room)
	}
}

// checkDisk: what a disk has, and how many writes wait.
func checkDisk(t *testing.T, d *disk.Disk, want []byte, waiting int) {
	t.Helper()
	if got := has(t, d); !bytes.Equal(got, want) {
		t.Errorf("the disk has %x, not %x", got, want)
	}
	if d.Waiting() != waiting {
		t.Errorf("%d wait, not %d", d.Waiting(), waiting)
	}
}

// checkDead: all calls say that the power was gone, and with that error ahead of all others; bringing it again changes nothing for this Wal.
func checkDead(t *testing.T, w *wal.Wal) {
	t.Helper()
	for range 2 {
		for _, n := range []int{0, 1, api.MaxBody, api.MaxBody + 1} {
			if err := w.Append(make([]byte, n)); err != api.ErrDead {
				t.Errorf("Append of %d bytes: %d", n, err)
			}
			if err := w.Reset([][]byte{make([]byte, n)}); err != api.ErrDead {
				t.Errorf("Reset to one of %d bytes: %d", n, err)
			}
		}
		if err := w.Reset(nil); err != api.ErrDead {
			t.Errorf("Reset: %d", err)
		}
		if err := w.Sync(); err != api.ErrDead {
			t.Errorf("Sync: %d", err)
		}
		checkLog(t, w, nil, 0, 0)
	}
}

// The chapter's example, and the second one of the whole.
func TestExamples(t *testing.T) {
	d := fresh(t, 10)
	w := open(t, d)
	checkLog(t, w, nil, 0, 128)
	good(t, "Append", w.Append([]byte("a")))
	checkLog(t, w, bodies("a"), 0, 117)
	d.Crash(nil)
	w = open(t, d)
	checkLog(t, w, nil, 0, 128)
	good(t, "Append", w.Append([]byte("a")))
	good(t, "Sync", w.Sync())
	d.Crash(nil)
	w = open(t, d)
	checkLog(t, w, bodies("a"), 1, 117)
	good(t, "Reset", w.Reset(bodies("b", "c")))
	d.Crash(nil)
	checkLog(t, open(t, d), bodies("b", "c"), 2, 106)

	d = fresh(t, 60)
	w = open(t, d)
	good(t, "Append", w.Append([]byte("a")))
	good(t, "Sync", w.Sync())
	good(t, "Append", w.Append([]byte("b")))
	d.Crash(nil)
	checkLog(t, open(t, d), bodies("a"), 1, 29*api.Sector-11)
}

func TestNil(t *testing.T) {
	var w *wal.Wal
	for _, n := range []int{0, 1, api.MaxBody + 1} {
		if err := w.Append(make([]byte, n)); err != api.ErrNil {
			t.Errorf("Append to nil: %d", err)
		}
		if err := w.Reset([][]byte{make([]byte, n)}); err != api.ErrNil {
			t.Errorf("Reset of nil: %d", err)
		}
	}
	if err := w.Sync(); err != api.ErrNil {
		t.Errorf("Sync of nil: %d", err)
	}
	checkLog(t, w, nil, 0, 0)
	if w, err := wal.Open(nil); w != nil || err != api.ErrNil {
		t.Errorf("Open(nil): %v, %d", w, err)
	}
}

// A Wal that no Open gave has no power, but no panic either.
func TestZero(t *testing.T) {
	checkDead(t, new(wal.Wal))
}

// A record's bytes lie behind those ahead of it, across the sectors; each sector that has some is written once, rising.
func TestAppendLays(t *testing.T) {
	d := fresh(t, 18)
	w := open(t, d)
	var l [][]byte
	end, waiting := 0, 0
	for i, n := range []int{0, 1, 11, 0, 22, 6, 22, 7, 45} {
		body := text(i, n)
		good(t, "Append", w.Append(body))
		l = append(l, body)
		first := end / api.Sector
		end += n + overhead
		waiting += (end-1)/api.Sector - first + 1
		checkLog(t, w, l, 0, 256-end)
		checkDisk(t, d, slices.Concat(make([]byte, 64), padded(records(t, l...), 16)), waiting)
	}
	checkRising(t, d, l)
	good(t, "Sync", w.Sync())
	checkLog(t, w, l, len(l), 256-end)
	d.Crash(nil)
	checkLog(t, open(t, d), l, len(l), 256-end)
}

// checkRising: of the writes that wait, those that were kept up to any place make the records' bytes up to a place that rises with it.
func checkRising(t *testing.T, d *disk.Disk, l [][]byte) {
	t.Helper()
	whole := padded(records(t, l...), 8)
	before := 0
	for n := range d.Waiting() + 1 {
		c := d.Clone()
		c.Crash(slices.Repeat([]int{api.Sector}, n))
		got := bytes.TrimRight(part(t, c, 2, 8), "\x00")
		if !bytes.HasPrefix(whole, got) || len(got) < before {
			t.Errorf("of the first %d writes: %x, behind %d bytes", n, got, before)
		}
		before = len(got)
	}
}

func TestRoom(t *testing.T) {
	for n := range 64 - overhead + 1 {
		d := fresh(t, 6)
		w := open(t, d)
		room := 64 - overhead - n
		good(t, "Append", w.Append(text(1, n)))
		checkLog(t, w, [][]byte{text(1, n)}, 0, room)
		for m := room - overhead + 1; m <= room+2; m++ {
			if m < 0 {
				continue
			}
			before := has(t, d)
			if err := w.Append(text(2, m)); err != api.ErrFull {
				t.Errorf("room %d, Append of %d bytes: %d", room, m, err)
			}
			checkLog(t, w, [][]byte{text(1, n)}, 0, room)
			checkDisk(t, d, before, d.Waiting())
		}
		if room < overhead {
			continue
		}
		l := [][]byte{text(1, n), text(2, room-overhead)}
		good(t, "Append", w.Append(l[1]))
		checkLog(t, w, l, 0, 0)
		good(t, "Sync", w.Sync())
		d.Crash(nil)
		w = open(t, d)
		checkLog(t, w, l, 2, 0)
		if err := w.Append(nil); err != api.ErrFull {
			t.Errorf("Append of nothing to a full log: %d", err)
		}
	}
}

// What is too long for a frame is told ahead of what is too long for the area; and the longest one that a frame takes, a great enough area takes.
func TestLong(t *testing.T) {
	for _, sectors := range []int{6, 200} {
		d := fresh(t, sectors)
		w := open(t, d)
		good(t, "Append", w.Append([]byte("a")))
		before, room, waiting := has(t, d), w.Room(), d.Waiting()
		for _, n := range []int{api.MaxBody + 1, api.MaxBody + 2, 1 << 16} {
			long := make([]byte, n)
			if err := w.Append(long); err != api.ErrLong {
				t.Errorf("Append of %d bytes: %d", n, err)
			}
			great := make([]byte, api.MaxBody)
			for _, l := range [][][]byte{{long}, {nil, long}, {long, nil}, {great, great, great, great, long}, {long, great, great, great, great}} {
				if err := w.Reset(l); err != api.ErrLong {
					t.Errorf("Reset to one of %d bytes, of %d: %d", n, len(l), err)
				}
			}
			checkLog(t, w, bodies("a"), 0, room)
			checkDisk(t, d, before, waiting)
		}
	}
	d := fresh(t, 70)
	w := open(t, d)
	l := [][]byte{text(1, api.MaxBody)}
	good(t, "Append", w.Append(l[0]))
	checkLog(t, w, l, 0, 34*api.Sector-overhead-api.MaxBody)
	good(t, "Reset", w.Reset(l))
	d.Crash(nil)
	checkLog(t, open(t, d), l, 1, 34*api.Sector-overhead-api.MaxBody)
}

// Sync makes all records safe, and each time syncs the disk.
func TestSync(t *testing.T) {
	d := fresh(t, 10)
	w := open(t, d)
	good(t, "Sync", w.Sync())
	checkLog(t, w, nil, 0, 128)
	good(t, "Append", w.Append([]byte("a")))
	good(t, "Append", w.Append([]byte("b")))
	good(t, "Sync", w.Sync())
	checkLog(t, w, bodies("a", "b"), 2, 106)
	if d.Waiting() != 0 {
		t.Errorf("%d wait", d.Waiting())
	}
	good(t, "Append", w.Append([]byte("c")))
	checkLog(t, w, bodies("a", "b", "c"), 2, 95)
	d.Arm(2)
	good(t, "Sync", w.Sync())
	good(t, "Sync", w.Sync())
	if err := w.Sync(); err != api.ErrDead {
		t.Errorf("Sync, at which the power goes: %d", err)
	}
	checkDead(t, w)
	d.Crash(nil)
	checkDead(t, w)
	checkLog(t, open(t, d), bodies("a", "b", "c"), 3, 95)
}

// What is refused as the power goes at a disk's own act, the log tells at its next call that would write.
func TestPowerGoesElsewhere(t *testing.T) {
	for _, call := range []func(w *wal.Wal) api.Errno{
		func(w *wal.Wal) api.Errno { return w.Append(nil) },
		func(w *wal.Wal) api.Errno { return w.Append([]byte("b")) },
		func(w *wal.Wal) api.Errno { return w.Sync() },
		func(w *wal.Wal) api.Errno { return w.Reset(nil) },
		func(w *wal.Wal) api.Errno { return w.Reset(bodies("b")) },
	} {
		d := fresh(t, 10)
		w := open(t, d)
		good(t, "Append", w.Append([]byte("a")))
		d.Arm(0)
		d.Sync()
		if err := call(w); err != api.ErrDead {
			t.Errorf("without power: %d", err)
		}
		checkDead(t, w)
	}
}

// What is handed in may be written over, and isn't changed.
func TestHandedIn(t *testing.T) {
	d := fresh(t, 10)
	w := open(t, d)
	wide := []byte("xxabcyy")
	good(t, "Append", w.Append(wide[2:5]))
	if string(wide) != "xxabcyy" {
		t.Errorf("Append made %q", wide)
	}
	clear(wide)
	checkLog(t, w, bodies("abc"), 0, 115)
	good(t, "Append", w.Append([]byte("d")))
	checkDisk(t, d, slices.Concat(make([]byte, 64), padded(records(t, bodies("abc", "d")...), 8)), 2)
	l := bodies("e", "fg", "h")
	good(t, "Reset", w.Reset(l[:2]))
	if !slices.EqualFunc(l, bodies("e", "fg", "h"), bytes.Equal) {
		t.Errorf("Reset made %q", l)
	}
	clear(l[0])
	clear(l[1])
	clear(l)
	checkLog(t, w, bodies("e", "fg"), 2, 105)
	good(t, "Append", w.Append(nil))
	d.Crash([]int{99, 99})
	checkLog(t, open(t, d), bodies("e", "fg", ""), 3, 95)
}

// What comes out is its owner's, with the room behind it.
func TestComesOut(t *testing.T) {
	d := fresh(t, 10)
	w := open(t, d)
	want := bodies("abc", "", "de")
	for i, b := range want {
		good(t, "Append", w.Append(b))
		if i == 1 {
			good(t, "Sync", w.Sync())
		}
	}
	first, second := w.Records(), w.Records()
	for i := range first {
		_ = append(first[i][:0], text(i, cap(first[i]))...)
		_ = append(first[i], "zzz"...)
	}
	clear(first[:cap(first)])
	if !slices.EqualFunc(second, want, bytes.Equal) {
		t.Errorf("two lists that came out share: %q", second)
	}
	for i, b := range second {
		clear(b[:cap(b)])
		if rest := second[i+1:]; !slices.EqualFunc(rest, want[i+1:], bytes.Equal) {
			t.Errorf("two records share: %q", rest)
		}
	}
	checkLog(t, w, want, 2, 93)
	good(t, "Append", w.Append([]byte("f")))
	d.Crash([]int{99, 99, 99})
	checkLog(t, open(t, d), append(want, []byte("f")), 4, 82)
}

// Two logs on two disks know nothing of one another; nor does one on a clone.
func TestApart(t *testing.T) {
	d := fresh(t, 10)
	w := open(t, d)
	good(t, "Append", w.Append([]byte("a")))
	c := d.Clone()
	v := open(t, c)
	good(t, "Append to the clone's", v.Append([]byte("b")))
	good(t, "Append", w.Append([]byte("c")))
	checkLog(t, w, bodies("a", "c"), 0, 106)
	checkLog(t, v, bodies("a", "b"), 1, 106)
	good(t, "Reset of the clone's", v.Reset(nil))
	checkLog(t, w, bodies("a", "c"), 0, 106)
	checkLog(t, open(t, d), bodies("a", "c"), 2, 106)
	checkLog(t, open(t, c), nil, 0, 128)
}

// The greatest disk's area takes as many records as have room in it.
func TestManyAppends(t *testing.T) {
	d := fresh(t, api.MaxSectors)
	w := open(t, d)
	n := 0
	for w.Room() >= overhead {
		good(t, "Append", w.Append(nil))
		n++
		if n%500 == 0 {
			good(t, "Sync", w.Sync())
		}
	}
	if n != 1023*api.Sector/overhead {
		t.Errorf("%d records", n)
	}
	checkLog(t, w, make([][]byte, n), n/500*500, 1023*api.Sector%overhead)
}
