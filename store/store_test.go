package store_test

import (
	"bytes"
	"slices"
	"strconv"
	"strings"
	"testing"

	"seawall/api"
	"seawall/bin"
	"seawall/disk"
	"seawall/frame"
	"seawall/store"
	"seawall/wal"
)

const overhead = 10 // bytes of a record beside its batch's

// fresh: a disk of that many sectors.
func fresh(t *testing.T, sectors int) *disk.Disk {
	t.Helper()
	d, err := disk.New(sectors)
	good(t, "New", err)
	return d
}

// open: a store that opens.
func open(t *testing.T, d *disk.Disk) *store.Store {
	t.Helper()
	s, err := store.Open(d)
	if s == nil || err != api.OK {
		t.Fatalf("Open: %v, %d", s, err)
	}
	return s
}

// openLog: the log that a store stands on.
func openLog(t *testing.T, d *disk.Disk) *wal.Wal {
	t.Helper()
	w, err := wal.Open(d)
	good(t, "Open of the log", err)
	return w
}

// good: a call went well.
func good(t *testing.T, what string, err api.Errno) {
	t.Helper()
	if err != api.OK {
		t.Fatalf("%s: %d", what, err)
	}
}

// bad: a call answers an error.
func bad(t *testing.T, what string, err, want api.Errno) {
	t.Helper()
	if err != want {
		t.Errorf("%s: %d, not %d", what, err, want)
	}
}

// pairs: a list of keys and values, "a=1 b=2".
func pairs(s string) []api.Pair {
	var l []api.Pair
	for _, word := range strings.Fields(s) {
		key, value, _ := strings.Cut(word, "=")
		l = append(l, api.Pair{Key: key, Value: value})
	}
	return l
}

// told: what is told by a range over a function.
func told(all func(func(string, string) bool)) []api.Pair {
	var l []api.Pair
	for key, value := range all {
		l = append(l, api.Pair{Key: key, Value: value})
	}
	return l
}

// checkStore: what a store tells, in all ways.
func checkStore(t *testing.T, s *store.Store, want []api.Pair, waiting int) {
	t.Helper()
	if got := told(s.All()); !slices.Equal(got, want) {
		t.Errorf("All: %q, not %q", got, want)
	}
	if s.Len() != len(want) || s.Waiting() != waiting {
		t.Errorf("Len %d, Waiting %d, not %d, %d", s.Len(), s.Waiting(), len(want), waiting)
	}
	for _, p := range want {
		if v, ok := s.Get(p.Key); v != p.Value || !ok {
			t.Errorf("Get(%q): %q, %t", p.Key, v, ok)
		}
		for _, near := range []string{p.Key + "\x00", p.Key[:len(p.Key)-1], strings.ToUpper(p.Key)} {
			i := slices.IndexFunc(want, func(o api.Pair) bool { return o.Key == near })
			if v, ok := s.Get(near); i < 0 && (v != "" || ok) {
				t.Errorf("Get(%q): %q, %t", near, v, ok)
			}
		}
	}
	if v, ok := s.Get(""); v != "" || ok {
		t.Errorf("Get of no key: %q, %t", v, ok)
	}
}

// checkLog: which batches stand in the log of a disk, behind a crash that keeps all.
func checkLog(t *testing.T, d *disk.Disk, want ...[]api.Change) {
	t.Helper()
	c := d.Clone()
	c.Crash(slices.Repeat([]int{api.Sector}, c.Waiting()))
	got := openLog(t, c).Records()
	if !slices.EqualFunc(got, want, func(b []byte, l []api.Change) bool { return bytes.Equal(b, plainBytes(l)) }) {
		t.Errorf("the log has %q, not %+v", got, want)
	}
}

// checkOver: all calls answer that error, and nothing.
func checkOver(t *testing.T, s *store.Store, want api.Errno) {
	t.Helper()
	checkStore(t, s, nil, 0)
	if v, ok := s.Get("a"); v != "" || ok {
		t.Errorf("Get: %q, %t", v, ok)
	}
	bad(t, "Do", s.Do(set("a", "1")), want)
	bad(t, "Do of nothing", s.Do(nil), want)
	bad(t, "Do of what is no batch", s.Do(make([]api.Change, 40)), want)
	bad(t, "Do of what is too long", s.Do(slices.Repeat(set("a", text(1, 128)), 9)), want)
	bad(t, "Sync", s.Sync(), want)
	bad(t, "Checkpoint", s.Checkpoint(), want)
	checkStore(t, s, nil, 0)
}

func TestNil(t *testing.T) {
	checkOver(t, nil, api.ErrNil)
	for range (*store.Store)(nil).All() {
		t.Error("a store that is not there tells a key")
	}
}

func TestNoStore(t *testing.T) {
	if s, err := store.Open(nil); s != nil || err != api.ErrNil {
		t.Errorf("on no disk: %v, %d", s, err)
	}
	for n := 1; n < 6; n++ {
		if s, err := store.Open(fresh(t, n)); s != nil || err != api.ErrArea {
			t.Errorf("on %d sectors: %v, %d", n, s, err)
		}
	}
	checkStore(t, open(t, fresh(t, 6)), nil, 0)
	d := fresh(t, 6)
	d.Arm(0)
	d.Sync()
	if s, err := store.Open(d); s != nil || err != api.ErrDead {
		t.Errorf("without power: %v, %d", s, err)
	}
}

// The power goes as the log wipes what is behind its records.
func TestPowerGoesAtOpen(t *testing.T) {
	d := fresh(t, 10)
	good(t, "Do", open(t, d).Do(set("a", "1")))
	d.Crash([]int{12})
	for n := range 2 {
		c := d.Clone()
		c.Arm(n)
		if s, err := store.Open(c); s != nil || err != api.ErrDead {
			t.Errorf("the power goes behind %d acts: %v, %d", n, s, err)
		}
		c.Crash(nil)
		checkStore(t, open(t, c), nil, 0)
	}
}

// A store opens on a log that somebody else wrote, if all of its records are batches' bytes.
func TestOpenLog(t *testing.T) {
	lay := func(bodies ...string) *disk.Disk {
		d := fresh(t, 40)
		w := openLog(t, d)
		for _, b := range bodies {
			good(t, "Append", w.Append([]byte(b)))
		}
		good(t, "Sync", w.Sync())
		return d
	}
	right := []string{"\x01\x01b\x00\x012", "\x00", "\x02\x01a\x00\x011\x01b\x01", "\x01\x01c\x00\x00", "\x01\x01z\x01"}
	checkStore(t, open(t, lay(right...)), pairs("a=1 c="), 0)
	for _, wrong := range []string{"", "\x01", "\x00\x00", "\x01\x01a\x02", "\x01\x00\x01", "\x01\x01a\x00\x80\x00", "b", text(1, 300)} {
		for at := range len(right) + 1 {
			d := lay(slices.Insert(slices.Clone(right), at, wrong)...)
			if s, err := store.Open(d); s != nil || err != api.ErrBatch {
				t.Errorf("with %q at %d: %v, %d", wrong, at, s, err)
			}
		}
	}
}

func TestBatches(t *testing.T) {
	d := fresh(t, 60)
	s := open(t, d)
	var done [][]api.Change
	for _, x := range []struct {
		l    []api.Change
		want string
	}{
		{nil, ""},
		{set("b", "2"), "b=2"},
		{[]api.Change{{Key: "a", Value: "1"}, {Key: "c", Value: "3"}, {Key: "b", Gone: true}}, "a=1 c=3"},
		{gone("x"), "a=1 c=3"},
		{set("a", ""), "a= c=3"},
		{[]api.Change{{Key: "c", Gone: true}, {Key: "c", Value: "4"}, {Key: "d", Value: "5"}, {Key: "d", Gone: true}}, "a= c=4"},
		{[]api.Change{{Key: "e", Value: "6"}, {Key: "e", Value: "7"}}, "a= c=4 e=7"},
		{slices.Repeat(gone("a"), 32), "c=4 e=7"},
		{[]api.Change{{Key: "c", Gone: true}, {Key: "e", Gone: true}}, ""},
		{set("E", "8"), "E=8"},
		{set("E", "8"), "E=8"},
	} {
		good(t, "Do", s.Do(x.l))
		done = append(done, x.l)
		checkStore(t, s, pairs(x.want), len(done))
		checkLog(t, d, done...)
		c := d.Clone()
		c.Crash(slices.Repeat([]int{api.Sector}, c.Waiting()))
		checkStore(t, open(t, c), pairs(x.want), 0)
	}
	good(t, "Sync", s.Sync())
	checkStore(t, s, pairs("E=8"), 0)
	good(t, "Do", s.Do(set("f", "9")))
	checkStore(t, s, pairs("E=8 f=9"), 1)
	d.Crash(nil)
	checkStore(t, open(t, d), pairs("E=8"), 0)
}

// Without Sync a batch is not there behind a crash.
func TestExampleStore(t *testing.T) {
	d := fresh(t, 20)
	s := open(t, d)
	good(t, "Do", s.Do([]api.Change{{Key: "a", Value: "x"}, {Key: "b", Gone: true}}))
	checkStore(t, s, pairs("a=x"), 1)
	if v, ok := s.Get("b"); v != "" || ok {
		t.Errorf("Get(b): %q, %t", v, ok)
	}
	d.Crash(nil)
	checkStore(t, open(t, d), nil, 0)
}

// What is refused is not done, not even by half, and nothing of it comes to the disk.
func TestRefused(t *testing.T) {
	d := fresh(t, 300)
	s := open(t, d)
	good(t, "Do", s.Do(set("a", "1")))
	waiting := d.Waiting()
	for _, x := range []struct {
		l   []api.Change
		err api.Errno
	}{
		{[]api.Change{{Key: "a", Value: "2"}, {}}, api.ErrArg},
		{[]api.Change{{Key: "a", Gone: true}, {Key: "b", Value: "1", Gone: true}}, api.ErrArg},
		{slices.Repeat(gone("a"), 33), api.ErrArg},
		{set(text(1, 17), ""), api.ErrArg},
		{set("a", text(1, 129)), api.ErrArg},
		{slices.Repeat(set("a", text(1, 128)), 8), api.ErrLong},
		{slices.Repeat(set("a", text(1, 128)), 33), api.ErrArg},
	} {
		bad(t, "Do", s.Do(x.l), x.err)
		checkStore(t, s, pairs("a=1"), 1)
		checkLog(t, d, set("a", "1"))
		if d.Waiting() != waiting {
			t.Errorf("%d writes wait, not %d", d.Waiting(), waiting)
		}
	}
}

// Keys are told rising, byte by byte.
func TestRising(t *testing.T) {
	keys := []string{"\x00", "\x00\x00", "\x00a", "\x7f", "A", "B", "a", "a\x00", "aa", "ab", "b", "ba", "zz", "\x80", "é", "é!", "日", "\xff", "\xff\x00", "\xff\xff"}
	slices.SortFunc(keys, func(a, b string) int { return bytes.Compare([]byte(a), []byte(b)) })
	for turn := range keys {
		s := open(t, fresh(t, 100))
		var want []api.Pair
		for i := range keys {
			key := keys[(i*7+turn)%len(keys)]
			good(t, "Do", s.Do(set(key, "v"+key)))
		}
		for _, key := range keys {
			want = append(want, api.Pair{Key: key, Value: "v" + key})
		}
		checkStore(t, s, want, len(keys))
	}
}

// Whoever stops early has the first ones, and may begin again.
func TestStopEarly(t *testing.T) {
	s := open(t, fresh(t, 100))
	for i := range 9 {
		good(t, "Do", s.Do(set(strconv.Itoa(i*4%9), strconv.Itoa(i*4%9))))
	}
	all := s.All()
	want := told(s.All())
	for n := range 9 {
		var got []api.Pair
		for key, value := range all {
			got = append(got, api.Pair{Key: key, Value: value})
			if len(got) > n {
				break
			}
		}
		if !slices.Equal(got, want[:n+1]) {
			t.Errorf("the first %d: %q, of %q", n+1, got, want)
		}
	}
	if got := told(all); !slices.Equal(got, want) {
		t.Errorf("once more: %q, not %q", got, want)
	}
}

// What is told is as it was when it was asked for: whatever is done behind that, or between two keys, and when all is over.
func TestToldLater(t *testing.T) {
	d := fresh(t, 60)
	s := open(t, d)
	none := s.All()
	good(t, "Do", s.Do([]api.Change{{Key: "a", Value: "1"}, {Key: "b", Value: "2"}, {Key: "c", Value: "3"}}))
	all := s.All()
	good(t, "Do", s.Do([]api.Change{{Key: "a", Gone: true}, {Key: "b", Value: "9"}, {Key: "bb", Value: "8"}}))
	good(t, "Checkpoint", s.Checkpoint())
	var got []api.Pair
	for key, value := range all {
		got = append(got, api.Pair{Key: key, Value: value})
		good(t, "Do", s.Do([]api.Change{{Key: "c", Gone: true}, {Key: key + "z", Value: "7"}}))
	}
	if want := pairs("a=1 b=2 c=3"); !slices.Equal(got, want) {
		t.Errorf("%q, not %q", got, want)
	}
	checkStore(t, s, pairs("az=7 b=9 bb=8 bz=7 cz=7"), 3)
	d.Arm(0)
	bad(t, "Sync", s.Sync(), api.ErrDead)
	checkOver(t, s, api.ErrDead)
	if got := told(all); !slices.Equal(got, pairs("a=1 b=2 c=3")) {
		t.Errorf("when the store is over: %q", got)
	}
	if got := told(none); len(got) > 0 {
		t.Errorf("asked for when there was none: %q", got)
	}
}

// A checkpoint leaves one batch for each key, by rising keys, all safe, and tells the same.
func TestCheckpoint(t *testing.T) {
	d := fresh(t, 60)
	s := open(t, d)
	good(t, "Checkpoint of nothing", s.Checkpoint())
	checkStore(t, s, nil, 0)
	checkLog(t, d)
	for i := range 12 {
		good(t, "Do", s.Do([]api.Change{{Key: text(i, 1), Value: text(i, i)}, {Key: "gone", Value: "x"}, {Key: "b", Value: "1"}}))
		good(t, "Do", s.Do([]api.Change{{Key: "gone", Gone: true}, {Key: text(i/2, 1), Gone: true}}))
	}
	want := told(s.All())
	var batches [][]api.Change
	for _, p := range want {
		batches = append(batches, set(p.Key, p.Value))
	}
	for range 3 {
		good(t, "Checkpoint", s.Checkpoint())
		checkStore(t, s, want, 0)
		checkLog(t, d, batches...)
		c := d.Clone()
		c.Crash(nil)
		checkStore(t, open(t, c), want, 0)
	}
	good(t, "Do", s.Do(nil))
	checkStore(t, s, want, 1)
	checkLog(t, d, append(batches, nil)...)
}

// A key of the greatest size with the greatest value goes through a checkpoint.
func TestGreatest(t *testing.T) {
	d := fresh(t, 60)
	s := open(t, d)
	want := []api.Pair{{Key: text(1, 16), Value: text(2, 128)}, {Key: text(2, 16), Value: text(3, 128)}}
	for _, p := range want {
		good(t, "Do", s.Do(set(p.Key, p.Value)))
	}
	slices.SortFunc(want, func(a, b api.Pair) int { return strings.Compare(a.Key, b.Key) })
	good(t, "Checkpoint", s.Checkpoint())
	d.Crash(nil)
	checkStore(t, open(t, d), want, 0)
}

// A log without room gets a checkpoint, and then the batch.
func TestFullLog(t *testing.T) {
	d := fresh(t, 10)
	s := open(t, d)
	one := len(plainBytes(set("a", "0"))) + overhead
	fit := 4 * api.Sector / one
	for i := range fit {
		good(t, "Do", s.Do(set("a", strconv.Itoa(i))))
		checkStore(t, s, pairs("a="+strconv.Itoa(i)), i+1)
	}
	good(t, "Do", s.Do(set("b", "1")))
	checkStore(t, s, []api.Pair{{Key: "a", Value: strconv.Itoa(fit - 1)}, {Key: "b", Value: "1"}}, 1)
	checkLog(t, d, set("a", strconv.Itoa(fit-1)), set("b", "1"))
	for i := range 100 {
		value := strconv.Itoa(i % 10)
		good(t, "Do", s.Do(set("a", value)))
		checkStore(t, s, pairs("a="+value+" b=1"), s.Waiting())
	}
}

// A batch that has no room even behind a checkpoint is not done, not by half, but the checkpoint stays.
func TestNoRoom(t *testing.T) {
	d := fresh(t, 10)
	s := open(t, d)
	good(t, "Do", s.Do(set("a", "1")))
	good(t, "Do", s.Do([]api.Change{{Key: "a", Value: "2"}, {Key: "b", Value: "3"}, {Key: "c", Gone: true}}))
	checkStore(t, s, pairs("a=2 b=3"), 2)
	great := []api.Change{{Key: "a", Gone: true}, {Key: "x", Value: text(1, 60)}, {Key: "y", Value: text(2, 60)}}
	for range 3 {
		bad(t, "Do", s.Do(great), api.ErrFull)
		checkStore(t, s, pairs("a=2 b=3"), 0)
		checkLog(t, d, set("a", "2"), set("b", "3"))
		if d.Waiting() != 0 {
			t.Errorf("%d writes wait", d.Waiting())
		}
	}
	good(t, "Do", s.Do(gone("a")))
	checkStore(t, s, pairs("b=3"), 1)
	checkLog(t, d, set("a", "2"), set("b", "3"), gone("a"))
}

// Just as many bytes as the log has room for, and one more: at once, and behind a checkpoint.
func TestLastByte(t *testing.T) {
	room := 4*api.Sector - 2*overhead - len(plainBytes(set("a", "1"))) - len(plainBytes(set("b", "")))
	for _, before := range [][]api.Change{nil, gone("q")} {
		d := fresh(t, 10)
		s := open(t, d)
		good(t, "Do", s.Do(set("a", "1")))
		waiting := 2
		if before != nil {
			// Has no room beside the great one, but goes by a checkpoint.
			good(t, "Do", s.Do(before))
			waiting = 1
		}
		c := d.Clone()
		good(t, "Do", s.Do(set("b", text(1, room))))
		checkStore(t, s, []api.Pair{{Key: "a", Value: "1"}, {Key: "b", Value: text(1, room)}}, waiting)
		checkLog(t, d, set("a", "1"), set("b", text(1, room)))
		c.Crash(slices.Repeat([]int{api.Sector}, c.Waiting()))
		s = open(t, c)
		bad(t, "Do", s.Do(set("b", text(1, room+1))), api.ErrFull)
		checkStore(t, s, pairs("a=1"), 0)
		checkLog(t, c, set("a", "1"))
	}
}

// A checkpoint of more than an area takes changes nothing: one batch of many keys is shorter than many of one.
func TestFullCheckpoint(t *testing.T) {
	d := fresh(t, 10)
	s := open(t, d)
	var l []api.Change
	var want []api.Pair
	for i := range 16 {
		key := string(rune('a' + i))
		l = append(l, api.Change{Key: key, Value: "1"})
		want = append(want, api.Pair{Key: key, Value: "1"})
	}
	good(t, "Do", s.Do(l))
	for range 2 {
		bad(t, "Checkpoint", s.Checkpoint(), api.ErrFull)
		bad(t, "Do", s.Do(set("a", text(1, 40))), api.ErrFull)
		bad(t, "Do", s.Do([]api.Change{{Key: "a", Gone: true}, {Key: "b", Value: text(1, 40)}}), api.ErrFull)
		checkStore(t, s, want, 1)
		checkLog(t, d, l)
	}
	good(t, "Do of what has room", s.Do(gone("a")))
	checkStore(t, s, want[1:], 2)
	good(t, "Sync", s.Sync())
	d.Crash(nil)
	checkStore(t, open(t, d), want[1:], 0)
}

// Behind the last epoch there is no checkpoint.
func TestLastEpoch(t *testing.T) {
	d := fresh(t, 10)
	h, err := frame.Put(1, bin.PutUint(1<<62-1))
	good(t, "Put", err)
	good(t, "Write", d.Write(1, append(h, make([]byte, api.Sector-len(h))...)))
	good(t, "Sync", d.Sync())
	s := open(t, d)
	for range 8 {
		good(t, "Do", s.Do(set("a", "1")))
	}
	bad(t, "Do", s.Do(set("a", "2")), api.ErrFull)
	bad(t, "Checkpoint", s.Checkpoint(), api.ErrFull)
	checkStore(t, s, pairs("a=1"), 8)
	good(t, "Sync", s.Sync())
	checkStore(t, s, pairs("a=1"), 0)
}

// The power goes in each call that meets the disk, and all is over then, also when it is there again.
func TestDead(t *testing.T) {
	for what, call := range map[string]func(s *store.Store) api.Errno{
		"Do":                      func(s *store.Store) api.Errno { return s.Do(set("a", "2")) },
		"Do of nothing":           func(s *store.Store) api.Errno { return s.Do(nil) },
		"Sync":                    func(s *store.Store) api.Errno { return s.Sync() },
		"Checkpoint":              func(s *store.Store) api.Errno { return s.Checkpoint() },
		"Do with a checkpoint":    func(s *store.Store) api.Errno { return s.Do(set("a", text(1, 90))) },
		"Do that is without room": func(s *store.Store) api.Errno { return s.Do(set("a", text(1, 128))) },
	} {
		d := fresh(t, 10)
		s := open(t, d)
		good(t, "Do", s.Do(set("a", "1")))
		good(t, "Do", s.Do(set("b", "1")))
		checkStore(t, s, pairs("a=1 b=1"), 2)
		d.Arm(0)
		bad(t, what, call(s), api.ErrDead)
		checkOver(t, s, api.ErrDead)
		d.Crash(nil)
		checkOver(t, s, api.ErrDead)
		checkStore(t, open(t, d), nil, 0)
	}
}

// The power goes at the append behind a checkpoint: the checkpoint is there.
func TestDeadBehindCheckpoint(t *testing.T) {
	d := fresh(t, 10)
	s := open(t, d)
	good(t, "Do", s.Do(set("a", "0")))
	good(t, "Do", s.Do(set("a", "1")))
	d.Arm(4 + 1 + 1 + 1) // an area, a sync, a head, a sync
	bad(t, "Do", s.Do(set("b", text(1, 96))), api.ErrDead)
	checkOver(t, s, api.ErrDead)
	d.Crash(nil)
	checkStore(t, open(t, d), pairs("a=1"), 0)
	checkLog(t, d, set("a", "1"))
}

// When the power goes at the disk's own act, what is refused without the disk is refused as before; the first call that meets it tells.
func TestPowerGoesElsewhere(t *testing.T) {
	d := fresh(t, 10)
	s := open(t, d)
	good(t, "Do", s.Do(set("a", "1")))
	d.Arm(0)
	d.Sync()
	bad(t, "Do of what is no batch", s.Do(make([]api.Change, 40)), api.ErrArg)
	checkStore(t, s, pairs("a=1"), 1)
	bad(t, "Do", s.Do(nil), api.ErrDead)
	checkOver(t, s, api.ErrDead)
}

// What is handed in may be written over, and isn't changed.
func TestHandedIn(t *testing.T) {
	d := fresh(t, 60)
	s := open(t, d)
	wide := []api.Change{{Key: "x", Value: "0"}, {Key: "a", Value: "1"}, {Key: "b", Value: "2"}, {Key: "y", Value: "0"}}
	before := slices.Clone(wide)
	good(t, "Do", s.Do(wide[1:3]))
	if !slices.Equal(wide, before) {
		t.Errorf("Do made %+v", wide)
	}
	clear(wide)
	checkStore(t, s, pairs("a=1 b=2"), 1)
	good(t, "Checkpoint", s.Checkpoint())
	checkLog(t, d, set("a", "1"), set("b", "2"))
}

// Two stores on two disks know nothing of one another; nor does one on a clone.
func TestApart(t *testing.T) {
	d := fresh(t, 20)
	s := open(t, d)
	good(t, "Do", s.Do(set("a", "1")))
	good(t, "Sync", s.Sync())
	c := d.Clone()
	o := open(t, c)
	good(t, "Do of the clone's", o.Do(set("a", "2")))
	good(t, "Do", s.Do(set("b", "1")))
	checkStore(t, s, pairs("a=1 b=1"), 1)
	checkStore(t, o, pairs("a=2"), 1)
	good(t, "Checkpoint of the clone's", o.Checkpoint())
	d.Crash(nil)
	checkStore(t, open(t, d), pairs("a=1"), 0)
	checkStore(t, open(t, c), pairs("a=2"), 0)
}

// The greatest disk takes many keys, and has them again.
func TestManyKeys(t *testing.T) {
	d := fresh(t, api.MaxSectors)
	s := open(t, d)
	var want []api.Pair
	for i := range 1000 {
		key := strconv.Itoa(i)
		good(t, "Do", s.Do(set(key, key+"!")))
		want = append(want, api.Pair{Key: key, Value: key + "!"})
	}
	slices.SortFunc(want, func(a, b api.Pair) int { return strings.Compare(a.Key, b.Key) })
	checkStore(t, s, want, 1000)
	good(t, "Checkpoint", s.Checkpoint())
	checkStore(t, s, want, 0)
	d.Crash(nil)
	checkStore(t, open(t, d), want, 0)
}
