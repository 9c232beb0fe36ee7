package wal_test

import (
	"bytes"
	"slices"
	"testing"

	"seawall/api"
	"seawall/disk"
)

// A list that has no room is refused, however great it is, and changes nothing; one that just has room isn't.
func TestResetRoom(t *testing.T) {
	d := fresh(t, 10)
	w := open(t, d)
	good(t, "Append", w.Append([]byte("a")))
	before := has(t, d)
	for _, l := range [][][]byte{
		make([][]byte, 13),
		make([][]byte, 1<<20),
		{make([]byte, 119)},
		{make([]byte, 108), {1}},
		{make([]byte, 1), make([]byte, 108)},
		{make([]byte, 119), nil},
		{make([]byte, api.MaxBody), nil},
		slices.Repeat([][]byte{make([]byte, api.MaxBody)}, 1<<20),
	} {
		if err := w.Reset(l); err != api.ErrFull {
			t.Errorf("Reset to %d, the first one of %d bytes: %d", len(l), len(l[0]), err)
		}
		checkLog(t, w, bodies("a"), 0, 117)
		checkDisk(t, d, before, 1)
	}
	for _, l := range [][][]byte{make([][]byte, 12), {text(1, 118)}, {text(1, 54), text(2, 54)}} {
		good(t, "Reset", w.Reset(l))
		room := 128 - len(records(t, l...))
		checkLog(t, w, l, len(l), room)
		d.Crash(nil)
		checkLog(t, open(t, d), l, len(l), room)
	}
}

// resets: lists that have room in four sectors, some more than others.
func resets() [][][]byte {
	return [][][]byte{
		nil,
		bodies("b", "c"),
		{text(1, 22), text(2, 22), text(3, 43)},
		{text(1, 118)},
		{nil},
		{text(4, 54), text(5, 54)},
	}
}

// A Reset writes the whole other area, be there something in it or not, syncs, writes the head, and syncs; the log whose place it takes stays as it was.
func TestResetLays(t *testing.T) {
	d := fresh(t, 10)
	lay(t, d, 6, text(8, 128))
	w := open(t, d)
	for i, l := range resets() {
		epoch := uint64(i + 1)
		side := int(epoch % 2)
		want := has(t, d)
		copy(want[side*api.Sector:], head(t, epoch))
		copy(want[(2+4*side)*api.Sector:], padded(records(t, l...), 4))
		d.Arm(7)
		good(t, "Reset", w.Reset(l))
		checkDisk(t, d, want, 0)
		room := 128 - len(records(t, l...))
		checkLog(t, w, l, len(l), room)
		if err := d.Sync(); err != api.ErrDead {
			t.Error("a Reset had fewer acts than seven")
		}
		d.Crash(nil)
		w = open(t, d)
		checkLog(t, w, l, len(l), room)
		if room > overhead {
			good(t, "Append", w.Append(text(i, room-overhead)))
		}
	}
}

// In whichever of its acts the power goes: so many writes wait then (four of them from ahead of it), and from the first Sync on the new area is safe, from the last one on the head.
func TestPowerGoesInReset(t *testing.T) {
	for _, l := range resets() {
		for n, waits := range []int{4, 5, 6, 7, 8, 0, 1, 0} {
			d := fresh(t, 10)
			w := open(t, d)
			good(t, "Append", w.Append([]byte("safe")))
			good(t, "Sync", w.Sync())
			for _, s := range []string{"p", "q", "r"} {
				good(t, "Append", w.Append([]byte(s)))
			}
			d.Arm(n)
			err := w.Reset(l)
			if went := n < 7; went != (err == api.ErrDead) || went == d.Up() || d.Waiting() != waits {
				t.Errorf("Arm(%d), Reset: %d, %d wait", n, err, d.Waiting())
			}
			if n == 7 {
				checkLog(t, w, l, len(l), 128-len(records(t, l...)))
			} else {
				checkDead(t, w)
			}
			checkBehindReset(t, d, l, n)
		}
	}
}

// checkBehindReset: what is there behind a crash that keeps nothing, and behind one that keeps all, if the power went at the act n of a Reset to l.
func checkBehindReset(t *testing.T, d *disk.Disk, l [][]byte, n int) {
	t.Helper()
	for _, all := range []bool{false, true} {
		want := bodies("safe", "p", "q", "r")
		switch {
		case n == 7, n == 6 && all:
			want = l
		case n < 5 && !all:
			want = want[:1]
		}
		c := d.Clone()
		if all {
			c.Crash(slices.Repeat([]int{api.Sector}, c.Waiting()))
		} else {
			c.Crash(nil)
		}
		got := part(t, c, 6, 4)
		if n >= 5 && !bytes.Equal(got, padded(records(t, l...), 4)) {
			t.Errorf("the power goes at the act %d, all is kept: %t: the new area has %x", n, all, got)
		}
		w := open(t, c)
		checkLog(t, w, want, len(want), 128-len(records(t, want...)))
	}
}

// A head of which a crash left but the beginning names no log, whatever was there before it: the one that stood stays.
func TestTornHead(t *testing.T) {
	for resets := range 4 {
		for keep := range api.Sector + 1 {
			d := fresh(t, 10)
			w := open(t, d)
			for i := range resets {
				good(t, "Reset", w.Reset([][]byte{text(i, 3)}))
			}
			good(t, "Append", w.Append([]byte("old")))
			old := w.Records()
			d.Arm(6)
			if err := w.Reset(bodies("new")); err != api.ErrDead {
				t.Errorf("Reset: %d", err)
			}
			d.Crash([]int{keep})
			want := old
			if keep >= overhead+1 {
				want = bodies("new")
			}
			if got := open(t, d).Records(); !slices.EqualFunc(got, want, bytes.Equal) {
				t.Errorf("behind %d resets, %d bytes of the head are kept: %q, not %q", resets, keep, got, want)
			}
		}
	}
}
