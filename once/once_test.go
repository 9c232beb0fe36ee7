package once_test

import (
	"math"
	"testing"

	"seawall/api"
	"seawall/once"
)

// The chapter's example.
func TestExample(t *testing.T) {
	x := made(t, 2)
	checkSave(t, x, "\x02\x00")
	checkBegin(t, x, 7, 1, begun, "")
	checkBegin(t, x, 7, 1, underWay, "")
	checkEnd(t, x, 7, 1, "a", api.OK)
	checkBegin(t, x, 7, 1, answered, "a")
	checkBegin(t, x, 7, 3, begun, "")
	checkNoBegin(t, x, 7, 2, api.ErrOld)
	checkBegin(t, x, 8, 1, begun, "")
	checkNoBegin(t, x, 9, 1, api.ErrMany)
	checkClients(t, x, under(7, 3), under(8, 1))
	checkCounts(t, x, 3, 1)
}

// A table is for one client at least, and for MaxClients at most.
func TestNew(t *testing.T) {
	for _, most := range []int{math.MinInt, -1, 0, api.MaxClients + 1, 256 + 2, math.MaxInt} {
		if x, err := once.New(most); x != nil || err != api.ErrArg {
			t.Errorf("New(%d): %v, %d", most, x, err)
		}
	}
	for most := 1; most <= api.MaxClients; most++ {
		x := made(t, most)
		checkClients(t, x)
		checkCounts(t, x, 0, 0)
		checkSave(t, x, string([]byte{byte(most), 0}))
		for id := range uint64(most) {
			checkBegin(t, x, id, 1, begun, "")
		}
		checkNoBegin(t, x, uint64(most), 1, api.ErrMany)
		checkNoBegin(t, x, math.MaxUint64, 1, api.ErrMany)
		checkCounts(t, x, most, 0)
	}
}

// Tables know nothing of one another.
func TestTwoTables(t *testing.T) {
	x, y := made(t, 2), made(t, 2)
	checkBegin(t, x, 7, 5, begun, "")
	checkBegin(t, y, 7, 4, begun, "")
	checkEnd(t, x, 7, 5, "a", api.OK)
	checkClients(t, y, under(7, 4))
	checkClients(t, x, done(7, 5, "a"))
	checkBegin(t, x, 7, 5, answered, "a")
	checkCounts(t, y, 1, 0)
	checkCounts(t, x, 1, 1)
}

// All calls of nil.
func TestNil(t *testing.T) {
	var x *once.Table
	for _, n := range []uint64{0, 1, math.MaxUint64} {
		checkNoBegin(t, x, 7, n, api.ErrNil)
		checkEnd(t, x, 7, n, "a", api.ErrNil)
		checkEnd(t, x, 7, n, text(1, 201), api.ErrNil)
	}
	checkClients(t, x)
	checkCounts(t, x, 0, 0)
	checkSave(t, x, "")
}

// What a request is, by what is remembered of its client: of each number, those beside it.
func TestBegin(t *testing.T) {
	numbers := []uint64{1, 2, 3, 1 << 31, 1<<31 + 1, 1 << 32, 1<<63 - 1, 1 << 63, 1<<63 + 1, math.MaxUint64 - 1, math.MaxUint64}
	for _, had := range numbers {
		for _, number := range numbers {
			for _, was := range []api.Client{under(7, had), done(7, had, ""), done(7, had, "ab")} {
				x := table(t, 2, was, under(8, 1))
				switch {
				case number < had:
					checkNoBegin(t, x, 7, number, api.ErrOld)
					checkClients(t, x, was, under(8, 1))
					checkCounts(t, x, 2, 0)
				case number > had:
					checkBegin(t, x, 7, number, begun, "")
					checkClients(t, x, under(8, 1), under(7, number))
					checkCounts(t, x, 3, 0)
				case was.Busy:
					checkBegin(t, x, 7, number, underWay, "")
					checkClients(t, x, under(8, 1), was)
					checkCounts(t, x, 2, 0)
				default:
					checkBegin(t, x, 7, number, answered, string(was.Reply))
					checkClients(t, x, under(8, 1), was)
					checkCounts(t, x, 2, 1)
				}
			}
		}
	}
}

// A client's ID may be any number, and is nobody else's.
func TestIDs(t *testing.T) {
	ids := []uint64{0, 1, 2, 255, 256, 1 << 32, 1<<32 + 1, 1 << 63, math.MaxUint64 - 1, math.MaxUint64}
	x := made(t, len(ids))
	for i, id := range ids {
		checkBegin(t, x, id, uint64(i+1), begun, "")
	}
	for i, id := range ids {
		checkBegin(t, x, id, uint64(i+1), underWay, "")
		checkEnd(t, x, id, uint64(i+1), text(i, i), api.OK)
	}
	for i, id := range ids {
		checkBegin(t, x, id, uint64(i+1), answered, text(i, i))
	}
	checkNoBegin(t, x, 0, 0, api.ErrArg)
	checkCounts(t, x, len(ids), len(ids))
}

// Of several errors the first is told, and with none of them anything changes.
func TestErrors(t *testing.T) {
	x := table(t, 2, under(7, 3), under(8, 1))
	same := func() {
		t.Helper()
		checkClients(t, x, under(7, 3), under(8, 1))
		checkCounts(t, x, 2, 0)
		checkSave(t, x, "\x02\x02\x07\x03\x01\x08\x01\x01")
	}
	for _, id := range []uint64{7, 8, 9, 0} {
		checkNoBegin(t, x, id, 0, api.ErrArg)
	}
	same()
	checkNoBegin(t, x, 7, 2, api.ErrOld)
	checkNoBegin(t, x, 7, 1, api.ErrOld)
	same()
	for _, id := range []uint64{0, 1, 6, 9, math.MaxUint64} {
		checkNoBegin(t, x, id, 1, api.ErrMany)
		checkNoBegin(t, x, id, math.MaxUint64, api.ErrMany)
	}
	same()
	for _, id := range []uint64{7, 8, 9} {
		for _, number := range []uint64{0, 1, 3} {
			checkEnd(t, x, id, number, text(1, 201), api.ErrLong)
			checkEnd(t, x, id, number, text(1, 5000), api.ErrLong)
		}
	}
	same()
	for _, n := range []uint64{0, 1, 2, 4, math.MaxUint64} {
		checkEnd(t, x, 7, n, "a", api.ErrNone)
		checkEnd(t, x, 9, n, "a", api.ErrNone)
		checkEnd(t, x, 0, n, "", api.ErrNone)
	}
	same()
	checkEnd(t, x, 7, 3, "a", api.OK)
	checkEnd(t, x, 7, 3, "b", api.ErrNone)
	checkEnd(t, x, 7, 3, "a", api.ErrNone)
	checkClients(t, x, under(8, 1), done(7, 3, "a"))
	checkNoBegin(t, x, 7, 0, api.ErrArg)
	checkNoBegin(t, x, 7, 2, api.ErrOld)
	checkClients(t, x, under(8, 1), done(7, 3, "a"))
	checkCounts(t, x, 2, 0)
}

// Replies of all sizes; none, and an empty one, are the same.
func TestReplies(t *testing.T) {
	x := made(t, 1)
	for n := range api.MaxReply + 1 {
		number := uint64(n + 1)
		checkBegin(t, x, 7, number, begun, "")
		checkEnd(t, x, 7, number, text(n, n), api.OK)
		checkBegin(t, x, 7, number, answered, text(n, n))
		checkClients(t, x, done(7, number, text(n, n)))
	}
	checkBegin(t, x, 7, 1000, begun, "")
	if err := x.End(7, 1000, nil); err != api.OK {
		t.Errorf("End(7, 1000, nil): %d", err)
	}
	checkBegin(t, x, 7, 1000, answered, "")
	checkClients(t, x, done(7, 1000, ""))
	checkSave(t, x, "\x01\x01\x07\xe8\x07\x00\x00")
}

// A greater number takes the place of a request that is under way: that one has no end any more.
func TestGreaterNumberTakesThePlace(t *testing.T) {
	x := table(t, 1, under(7, 3))
	checkBegin(t, x, 7, 9, begun, "")
	checkClients(t, x, under(7, 9))
	checkEnd(t, x, 7, 3, "a", api.ErrNone)
	checkNoBegin(t, x, 7, 3, api.ErrOld)
	checkBegin(t, x, 7, 9, underWay, "")
	checkEnd(t, x, 7, 9, "b", api.OK)
	checkBegin(t, x, 7, 9, answered, "b")
	checkBegin(t, x, 7, 10, begun, "")
	checkClients(t, x, under(7, 10))
	checkBegin(t, x, 7, 10, underWay, "")
	checkNoBegin(t, x, 7, 9, api.ErrOld)
	checkCounts(t, x, 3, 1)
}

// Each Begin and End without an error uses its client, wherever that stands; one with an error doesn't.
func TestUsed(t *testing.T) {
	for _, c := range []struct {
		name string
		was  api.Client
		use  func(x *once.Table)
		is   api.Client
		used bool
	}{
		{"a request that is under way", under(7, 3), func(x *once.Table) { x.Begin(7, 3) }, under(7, 3), true},
		{"one that was answered", done(7, 3, "a"), func(x *once.Table) { x.Begin(7, 3) }, done(7, 3, "a"), true},
		{"a new one", done(7, 3, "a"), func(x *once.Table) { x.Begin(7, 4) }, under(7, 4), true},
		{"a new one in a place", under(7, 3), func(x *once.Table) { x.Begin(7, 4) }, under(7, 4), true},
		{"an end", under(7, 3), func(x *once.Table) { x.End(7, 3, []byte("b")) }, done(7, 3, "b"), true},
		{"no number", under(7, 3), func(x *once.Table) { x.Begin(7, 0) }, under(7, 3), false},
		{"an old one", done(7, 3, "a"), func(x *once.Table) { x.Begin(7, 2) }, done(7, 3, "a"), false},
		{"a second end", done(7, 3, "a"), func(x *once.Table) { x.End(7, 3, nil) }, done(7, 3, "a"), false},
		{"an old end", under(7, 3), func(x *once.Table) { x.End(7, 2, nil) }, under(7, 3), false},
		{"a long end", under(7, 3), func(x *once.Table) { x.End(7, 3, make([]byte, 201)) }, under(7, 3), false},
	} {
		for at := range 4 {
			l := []api.Client{under(1, 1), done(2, 1, "x"), under(3, 1)}
			before := append(append(append([]api.Client{}, l[:at]...), c.was), l[at:]...)
			after := append(append(append([]api.Client{}, l[:at]...), c.is), l[at:]...)
			if c.used {
				after = append(append([]api.Client{}, l...), c.is)
			}
			x := table(t, 5, before...)
			c.use(x)
			checkClients(t, x, after...)
			if t.Failed() {
				t.Fatal(c.name, at)
			}
		}
	}
}

// Whoever is found in a place is found in the next one, too: each client in turn is used again and again.
func TestFoundAnywhere(t *testing.T) {
	x := made(t, api.MaxClients)
	for id := range uint64(api.MaxClients) {
		checkBegin(t, x, id, 1, begun, "")
	}
	for round := range uint64(6) {
		for i := range uint64(api.MaxClients) {
			id := i * (2*round + 1) % api.MaxClients
			checkEnd(t, x, id, round+1, text(int(id), 3), api.OK)
			checkBegin(t, x, id, round+1, answered, text(int(id), 3))
			checkBegin(t, x, id, round+2, begun, "")
			checkBegin(t, x, id, round+2, underWay, "")
		}
	}
	checkCounts(t, x, 7*api.MaxClients, 6*api.MaxClients)
}

// In a full table the first client that is not under way is forgotten, wherever it stands, and no other.
func TestForgets(t *testing.T) {
	for idle := range 1 << 4 {
		var before, after []api.Client
		gone := -1
		for i := range 4 {
			c := under(uint64(i), 5)
			if idle>>i&1 == 1 {
				c = done(uint64(i), 5, "r")
			}
			before = append(before, c)
			if !c.Busy && gone < 0 {
				gone = i
			} else {
				after = append(after, c)
			}
		}
		x := table(t, 4, before...)
		if gone < 0 {
			checkNoBegin(t, x, 9, 1, api.ErrMany)
			checkClients(t, x, before...)
			continue
		}
		checkBegin(t, x, 9, 1, begun, "")
		checkClients(t, x, append(after, under(9, 1))...)
		for _, c := range after {
			checkNoBegin(t, x, c.ID, 4, api.ErrOld)
		}
		checkEnd(t, x, uint64(gone), 5, "r", api.ErrNone)
		checkEnd(t, x, 9, 1, "s", api.OK)
		// Who was forgotten may begin with any number.
		checkBegin(t, x, uint64(gone), 1, begun, "")
		checkEnd(t, x, uint64(gone), 1, "u", api.OK)
		checkBegin(t, x, uint64(gone), 1, answered, "u")
	}
}

// A table that is not full forgets nobody; nor does a full one, of a client that it remembers.
func TestForgetsNobody(t *testing.T) {
	x := table(t, 3, done(1, 1, "a"), done(2, 1, "b"))
	checkBegin(t, x, 3, 1, begun, "")
	checkClients(t, x, done(1, 1, "a"), done(2, 1, "b"), under(3, 1))
	checkBegin(t, x, 1, 2, begun, "")
	checkBegin(t, x, 2, 1, answered, "b")
	checkEnd(t, x, 3, 1, "c", api.OK)
	checkClients(t, x, under(1, 2), done(2, 1, "b"), done(3, 1, "c"))
	checkBegin(t, x, 4, 1, begun, "")
	checkClients(t, x, under(1, 2), done(3, 1, "c"), under(4, 1))
}

// A table for one client forgets it as soon as that is answered and another one comes.
func TestOne(t *testing.T) {
	x := made(t, 1)
	for id := range uint64(5) {
		checkBegin(t, x, id, 1, begun, "")
		checkNoBegin(t, x, id+1, 1, api.ErrMany)
		checkEnd(t, x, id, 1, "a", api.OK)
		checkBegin(t, x, id, 1, answered, "a")
		checkClients(t, x, done(id, 1, "a"))
	}
	checkCounts(t, x, 5, 5)
	checkEnd(t, x, 0, 1, "a", api.ErrNone)
}

// What was begun, and what was answered again, is counted, and nothing else.
func TestCounts(t *testing.T) {
	x := made(t, 2)
	count := func(begun, again int, err api.Errno, want api.Errno) {
		t.Helper()
		if err != want {
			t.Errorf("%d, not %d", err, want)
		}
		checkCounts(t, x, begun, again)
	}
	begin := func(id, number uint64) api.Errno {
		_, _, err := x.Begin(id, number)
		return err
	}
	count(1, 0, begin(7, 2), api.OK)
	count(1, 0, begin(7, 2), api.OK)
	count(1, 0, begin(7, 1), api.ErrOld)
	count(1, 0, begin(7, 0), api.ErrArg)
	count(1, 0, x.End(7, 2, nil), api.OK)
	count(1, 1, begin(7, 2), api.OK)
	count(1, 2, begin(7, 2), api.OK)
	count(2, 2, begin(7, 3), api.OK)
	count(3, 2, begin(8, 1), api.OK)
	count(3, 2, begin(9, 1), api.ErrMany)
	count(3, 2, x.End(9, 1, nil), api.ErrNone)
	count(3, 2, x.End(8, 1, nil), api.OK)
	count(4, 2, begin(9, 1), api.OK)
	x.Save()
	x.Clients()
	checkCounts(t, x, 4, 2)
}

// What is handed in is not kept, and what comes out shares nothing.
func TestNothingShared(t *testing.T) {
	x := table(t, 3, done(7, 1, "abc"), done(8, 1, "abc"), under(9, 1))
	own := []byte("abc")
	if err := x.End(9, 1, own); err != api.OK {
		t.Errorf("End(9, 1): %d", err)
	}
	spoil(own)
	want := []api.Client{done(7, 1, "abc"), done(8, 1, "abc"), done(9, 1, "abc")}
	checkClients(t, x, want...)

	for range 2 {
		l := x.Clients()
		for i, c := range l {
			if !sameClient(c, want[i]) {
				t.Errorf("%v is spoilt by another one of its list", c)
			}
			spoil(c.Reply)
		}
		clear(l[:cap(l)])
		checkClients(t, x, want...)
	}
	_, first, _ := x.Begin(9, 1)
	_, second, _ := x.Begin(9, 1)
	spoil(first)
	if string(second) != "abc" {
		t.Errorf("a reply became %q by another one", second)
	}
	checkClients(t, x, want...)
	spoil(x.Save())
	checkClients(t, x, want...)

	early := x.Clients()
	b := x.Save()
	checkBegin(t, x, 7, 2, begun, "")
	checkEnd(t, x, 7, 2, "xyz", api.OK)
	checkBegin(t, x, 5, 1, begun, "")
	for i, c := range early {
		if !sameClient(c, want[i]) {
			t.Errorf("what was told became %v", c)
		}
	}
	y, err := once.Load(b)
	if err != api.OK {
		t.Fatalf("Load: %d", err)
	}
	spoil(b)
	checkClients(t, y, want...)
	spoil(y.Clients()[0].Reply)
	checkClients(t, y, want...)
}

// spoil: bytes, and the room behind them.
func spoil(b []byte) {
	b = b[:cap(b)]
	for i := range b {
		b[i] ^= 0xff
	}
}
