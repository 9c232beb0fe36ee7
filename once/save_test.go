package once_test

import (
	"math"
	"strings"
	"testing"

	"seawall/api"
	"seawall/once"
)

// The bytes of tables, told out.
func TestSave(t *testing.T) {
	for _, c := range []struct {
		most    int
		clients []api.Client
		bytes   string
	}{
		{1, nil, "\x01\x00"},
		{64, nil, "\x40\x00"},
		{2, []api.Client{under(7, 1)}, "\x02\x01\x07\x01\x01"},
		{2, []api.Client{done(7, 1, "")}, "\x02\x01\x07\x01\x00\x00"},
		{2, []api.Client{done(7, 1, "a")}, "\x02\x01\x07\x01\x00\x01a"},
		{1, []api.Client{done(0, 300, "ab")}, "\x01\x01\x00\xac\x02\x00\x02ab"},
		{3, []api.Client{under(300, 2), done(1, 2, "abc"), under(0, 1)}, "\x03\x03\xac\x02\x02\x01\x01\x02\x00\x03abc\x00\x01\x01"},
		{1, []api.Client{under(math.MaxUint64, 1)}, "\x01\x01\xff\xff\xff\xff\xff\xff\xff\xff\xff\x01\x01\x01"},
		{1, []api.Client{under(1, math.MaxUint64)}, "\x01\x01\x01\xff\xff\xff\xff\xff\xff\xff\xff\xff\x01\x01"},
		{1, []api.Client{done(5, 6, text(1, 200))}, "\x01\x01\x05\x06\x00\xc8\x01" + text(1, 200)},
	} {
		checkSave(t, table(t, c.most, c.clients...), c.bytes)
		x := loaded(t, c.bytes)
		checkClients(t, x, c.clients...)
		checkCounts(t, x, 0, 0)
	}
}

// A loaded table goes on as the saved one does; it counts from its own beginning on.
func TestLoadIsTheTable(t *testing.T) {
	x := table(t, 3, done(7, 4, "a"), under(8, 5), done(9, 6, "c"))
	checkBegin(t, x, 7, 4, answered, "a")
	y := loaded(t, string(x.Save()))
	checkCounts(t, x, 3, 1)
	checkCounts(t, y, 0, 0)
	for i, z := range []*once.Table{x, y} {
		before := []int{3, 0}[i]
		checkNoBegin(t, z, 9, 5, api.ErrOld)
		checkNoBegin(t, z, 7, 3, api.ErrOld)
		checkBegin(t, z, 8, 5, underWay, "")
		checkBegin(t, z, 5, 1, begun, "")
		checkClients(t, z, done(7, 4, "a"), under(8, 5), under(5, 1))
		checkBegin(t, z, 6, 1, begun, "")
		checkClients(t, z, under(8, 5), under(5, 1), under(6, 1))
		checkNoBegin(t, z, 7, 4, api.ErrMany)
		checkEnd(t, z, 8, 5, "b", api.OK)
		checkBegin(t, z, 8, 5, answered, "b")
		checkCounts(t, z, before+2, []int{2, 1}[i])
	}
}

// A full table is saved and loaded whole.
func TestFullTable(t *testing.T) {
	x := made(t, api.MaxClients)
	for id := range uint64(api.MaxClients) {
		checkBegin(t, x, math.MaxUint64-id, math.MaxUint64-id, begun, "")
		checkEnd(t, x, math.MaxUint64-id, math.MaxUint64-id, text(int(id), 200), api.OK)
	}
	y := loaded(t, string(x.Save()))
	checkClients(t, y, x.Clients()...)
	checkBegin(t, y, 1, 1, begun, "")
	if l := y.Clients(); len(l) != api.MaxClients || l[0].ID != math.MaxUint64-1 || l[api.MaxClients-1].ID != 1 {
		t.Errorf("Clients: %v", l)
	}
}

// repeat: the bytes of n clients, whose IDs are 1 and so on.
func repeat(n int) string {
	var b strings.Builder
	for i := range n {
		b.WriteString(string([]byte{byte(i + 1), 1, 1}))
	}
	return b.String()
}

// Bytes that are no table's.
func TestLoadErrors(t *testing.T) {
	ten := strings.Repeat("\x80", 9)
	for _, s := range []string{
		"",
		// most
		"\x00", "\x00\x00", "\x41\x00", "\x80\x01\x00", "\x80\x00\x00", "\x82\x00\x00", ten + "\x01\x00", ten + "\x02\x00", "\x82\x80\x80\x80\x10\x00",
		// how many
		"\x02", "\x02\x80\x00", "\x01\x02" + repeat(2), "\x02\x03" + repeat(3), "\x40\x41" + repeat(65), "\x02" + ten + "\x01", "\x02\x82\x80\x80\x80\x10" + repeat(2),
		"\x02\x01", "\x02\x02" + repeat(1),
		// bytes behind the last one
		"\x02\x00\x00", "\x02\x01" + repeat(2), "\x02\x01" + repeat(1) + "\x00", "\x02\x01\x07\x01\x00\x01ab",
		// an ID, a Number
		"\x02\x01\x80\x00\x01\x01", "\x02\x01" + ten + "\x02\x01\x01", "\x02\x01\x07\x00\x01", "\x02\x01\x07\x00\x00\x00", "\x02\x01\x07\x81\x00\x01", "\x02\x01\x07" + ten + "\x02\x01",
		// busy, or not
		"\x02\x01\x07\x01", "\x02\x01\x07\x01\x02", "\x02\x01\x07\x01\x02\x00", "\x02\x01\x07\x01\x80\x01\x00", "\x02\x01\x07\x01\x81\x00", "\x02\x01\x07\x01\x01\x00", "\x02\x01\x07\x01\x80\x00\x00", "\x02\x01\x07\x01\x80\x02",
		// a reply
		"\x02\x01\x07\x01\x00", "\x02\x01\x07\x01\x00\x01", "\x02\x01\x07\x01\x00\x02a", "\x02\x01\x07\x01\x00\x80\x00", "\x02\x01\x07\x01\x00\xc9\x01" + text(1, 201), "\x02\x01\x07\x01\x00\xc9\x01" + text(1, 200),
		"\x02\x01\x07\x01\x00" + ten + "\x01", "\x02\x02\x07\x01\x00\xc9\x01" + text(1, 201) + "\x08\x01\x01",
		// two of one ID
		"\x02\x02\x07\x01\x01\x07\x01\x01", "\x02\x02\x07\x01\x01\x07\x02\x01", "\x02\x02\x00\x01\x01\x00\x01\x00\x00", "\x03\x03\x07\x01\x01\x08\x01\x01\x07\x01\x01",
	} {
		checkNoLoad(t, s)
	}
}

// A table's bytes, cut or with more behind them, are none's.
func TestEachCut(t *testing.T) {
	x := table(t, 5, done(300, 2, text(3, 130)), under(7, 1000), done(8, 1, ""), under(math.MaxUint64, math.MaxUint64))
	s := string(x.Save())
	loaded(t, s)
	for n := range len(s) {
		checkNoLoad(t, s[:n])
	}
	for _, behind := range []string{"\x00", "\x01", "\xff", "\x09\x01\x01", s} {
		checkNoLoad(t, s+behind)
	}
}

// Wherever a byte is another one, the bytes are of another table, or of none.
func TestEachByte(t *testing.T) {
	x := table(t, 4, done(300, 2, "abc"), under(7, 1000), done(8, 1, ""))
	s := x.Save()
	for at := range s {
		for c := range 256 {
			b := append([]byte{}, s...)
			b[at] = byte(c)
			y, err := once.Load(b)
			if err == api.OK {
				checkSave(t, y, string(b))
			} else {
				checkNoLoad(t, string(b))
			}
			if _, ok := plainLoad(b); ok != (err == api.OK) {
				t.Errorf("Load(%x): %d", b, err)
			}
		}
	}
}
