package accept_test

import (
	"strings"
	"testing"

	"seawall/accept"
	"seawall/api"
	"seawall/disk"
	"seawall/frame"
	"seawall/store"
	"seawall/wal"
)

// laid: a disk whose store has these keys and values, "key=value".
func laid(t *testing.T, pairs ...string) *disk.Disk {
	t.Helper()
	d := fresh(t, 100)
	s, err := store.Open(d)
	good(t, "Open of the store", err)
	for _, pair := range pairs {
		key, value, _ := strings.Cut(pair, "=")
		good(t, "Do", s.Do([]api.Change{{Key: key, Value: value}}))
	}
	good(t, "Sync", s.Sync())
	d.Crash(nil)
	return d
}

// checkNone: there is no acceptor on the disk.
func checkNone(t *testing.T, what string, d *disk.Disk, want api.Errno) {
	t.Helper()
	if a, err := accept.Open(d); a != nil || err != want {
		t.Errorf("%s: %v, %d, not %d", what, a, err, want)
	}
}

const (
	slot1    = "v\x00\x00\x00\x00\x00\x00\x00\x01"
	slotLast = "v\xff\xff\xff\xff\xff\xff\xff\xff"
	nMost    = "\xff\xff\xff\xff\xff\xff\xff\xff\xff\x01" // 2 to the 64 less 1
)

func TestOpen(t *testing.T) {
	checkTold(t, open(t, laid(t)), none)
	checkTold(t, open(t, laid(t, "p=\x01\x00")), ballot(1, 0))
	checkTold(t, open(t, laid(t, "p=\xac\x02\x0b")), ballot(300, 11))
	checkTold(t, open(t, laid(t, "p="+nMost+"\x0b")), ballot(1<<64-1, 11))
	checkTold(t, open(t, laid(t, slot1+"=\x02\x03", "p=\x02\x03")), ballot(2, 3), vote(1, 2, 3, ""))
	checkTold(t, open(t, laid(t, slot1+"=\x02\x03x", "p=\x02\x04")), ballot(2, 4), vote(1, 2, 3, "x"))
	checkTold(t, open(t, laid(t, "p="+nMost+"\x0b", slotLast+"="+nMost+"\x0b"+text(1, 100), slot1+"="+nMost+"\x0a"+text(2, 100))),
		ballot(1<<64-1, 11), vote(1, 1<<64-1, 10, text(2, 100)), vote(1<<64-1, 1<<64-1, 11, text(1, 100)))
	checkTold(t, open(t, laid(t, "p=\x05\x00", "v\x01\x00\x00\x00\x00\x00\x00\x00=\x01\x00a", "v\x00\x00\x00\x00\x00\x00\x00\xff=\x01\x00b", "v\x00\x00\x00\x01\x00\x00\x00\x00=\x04\x0bc")),
		ballot(5, 0), vote(255, 1, 0, "b"), vote(1<<32, 4, 11, "c"), vote(1<<56, 1, 0, "a"))
}

// A key, or a value, that is none of an acceptor's; alone, and beside those that are.
func TestOpenNone(t *testing.T) {
	p := "p=\x05\x05"
	for what, pairs := range map[string][]string{
		"a key a":                       {"a=\x01\x00"},
		"a key P":                       {"P=\x01\x00"},
		"a key above all":               {p, "w=\x01\x00"},
		"a key between":                 {p, "q=\x01\x00"},
		"a key pp":                      {p, "pp=\x01\x00"},
		"a key p and a nought":          {p, "p\x00=\x01\x00"},
		"a key v":                       {p, "v=\x01\x00"},
		"a key of seven bytes":          {p, slot1[:1] + slot1[2:] + "=\x01\x00"},
		"a key of nine bytes":           {p, slot1 + "\x01=\x01\x00"},
		"a key of nine bytes ahead":     {p, "v\x00" + slot1[1:] + "=\x01\x00"},
		"another mark":                  {p, "w" + slot1[1:] + "=\x01\x00"},
		"a mark p":                      {p, "p" + slot1[1:] + "=\x01\x00"},
		"no mark":                       {p, slot1[1:] + "=\x01\x00"},
		"a slot 0":                      {p, "v\x00\x00\x00\x00\x00\x00\x00\x00=\x01\x00"},
		"p of nothing":                  {"p="},
		"p of half a ballot":            {"p=\x01"},
		"p of half a number":            {"p=\x80"},
		"p of half a node":              {"p=\x01\x80"},
		"p and more":                    {"p=\x01\x00x"},
		"p and a nought":                {"p=\x01\x00\x00"},
		"p of N 0":                      {"p=\x00\x00"},
		"p of N 0, Node 1":              {"p=\x00\x01"},
		"p of Node 12":                  {"p=\x01\x0c"},
		"p of Node 127":                 {"p=\x01\x7f"},
		"p of Node 2 to the 32":         {"p=\x01\x80\x80\x80\x80\x10"},
		"p of Node 2 to the 63":         {"p=\x01\x80\x80\x80\x80\x80\x80\x80\x80\x80\x01"},
		"p of the greatest Node":        {"p=\x01" + nMost},
		"p of N above 64 bits":          {"p=\xff\xff\xff\xff\xff\xff\xff\xff\xff\x02\x00"},
		"p of N in a longer form":       {"p=\x81\x00\x00"},
		"p of Node in a longer form":    {"p=\x01\x80\x00"},
		"a vote of nothing":             {p, slot1 + "="},
		"a vote of half a ballot":       {p, slot1 + "=\x01"},
		"a vote of half a node":         {p, slot1 + "=\x01\x80"},
		"a vote of N 0":                 {p, slot1 + "=\x00\x00x"},
		"a vote of Node 12":             {p, slot1 + "=\x01\x0cx"},
		"a vote of the greatest Node":   {p, slot1 + "=\x01" + nMost + "x"},
		"a vote of N in a longer form":  {p, slot1 + "=\x81\x00\x00x"},
		"a vote's Node in longer form":  {p, slot1 + "=\x01\x80\x00x"},
		"a vote of 101 bytes":           {p, slot1 + "=\x01\x00" + text(1, 101)},
		"a vote of 126 bytes":           {p, slot1 + "=\x01\x00" + text(1, 126)},
		"a vote of 101, long ballot":    {"p=" + nMost + "\x0b", slot1 + "=" + nMost + "\x0a" + text(1, 101)},
		"a vote above the promise":      {p, slot1 + "=\x05\x06x"},
		"a vote far above":              {p, slot1 + "=\x06\x00x"},
		"a vote of no promise":          {slot1 + "=\x01\x00x"},
		"the last of votes":             {p, slot1 + "=\x05\x05x", slotLast + "=\x05\x06"},
		"the first of votes":            {p, slot1 + "=\x05\x06x", slotLast + "=\x05\x05"},
		"a promise that was lowered":    {p, slot1 + "=\x05\x05x", "p=\x05\x04"},
		"a vote that was spoilt since":  {p, slot1 + "=\x05\x05x", slot1 + "=\x05"},
		"a key beside a right promise":  {p, "a=\x01\x00"},
		"a key beside a promise, vote":  {p, slot1 + "=\x05\x05x", "z="},
		"p that is a vote's value":      {"p=\x01\x00x", slot1 + "=\x01\x00x"},
		"a key that is longest":         {p, text(1, 16) + "=\x01\x00"},
		"a value that is longest":       {"p=" + text(1, 128)},
		"an empty value beside a right": {p, slot1 + "=\x01\x00", slotLast + "="},
	} {
		d := laid(t, pairs...)
		checkNone(t, what, d, api.ErrVote)
		checkNone(t, what+", once more", d, api.ErrVote)
	}
}

// What was wrong, and is so no more, is no fault.
func TestOpenMended(t *testing.T) {
	checkTold(t, open(t, laid(t, "p=", "p=\x01\x00")), ballot(1, 0))
	checkTold(t, open(t, laid(t, "p=\x01\x00", slot1+"=\x09\x00x", slot1+"=\x01\x00y")), ballot(1, 0), vote(1, 1, 0, "y"))
	checkTold(t, open(t, laid(t, "p=\x01\x00", slot1+"=\x09\x00x", "p=\x09\x00")), ballot(9, 0), vote(1, 9, 0, "x"))
}

// The store's errors.
func TestOpenErrors(t *testing.T) {
	checkNone(t, "no disk", nil, api.ErrNil)
	checkNone(t, "a disk of five sectors", fresh(t, 5), api.ErrArea)

	d := fresh(t, 60)
	d.Arm(0)
	d.Sync()
	checkNone(t, "a disk that is down", d, api.ErrDead)
	d.Crash(nil)
	checkTold(t, open(t, d), none)

	d = laid(t, "a=")
	w, err := wal.Open(d)
	good(t, "Open of the log", err)
	good(t, "Append", w.Append([]byte("no batch")))
	checkNone(t, "a record that is no batch, and a key that is none", d, api.ErrBatch)
}

// The power goes as Open wipes what a torn record left: the next Open tells all.
func TestOpenDead(t *testing.T) {
	for acts := range 2 {
		d := fresh(t, 60)
		a := open(t, d)
		v := vote(1, 1, 0, "x")
		checkAccept(t, a, v, ballot(1, 0), api.OK)
		torn, err := frame.Put(2, []byte(text(1, 40)))
		good(t, "Put", err)
		good(t, "Write", d.Write(10, torn[:api.Sector]))
		good(t, "Sync", d.Sync())
		d.Arm(acts)
		checkNone(t, "the power goes", d, api.ErrDead)
		d.Crash(nil)
		checkTold(t, open(t, d), ballot(1, 0), v)
	}
}
