package accept_test

import (
	"bytes"
	"slices"
	"testing"

	"seawall/accept"
	"seawall/api"
	"seawall/disk"
	"seawall/store"
	"seawall/wal"
)

var none api.Ballot

func ballot(n uint64, node int) api.Ballot {
	return api.Ballot{N: n, Node: node}
}

func vote(slot, n uint64, node int, value string) api.Vote {
	return api.Vote{Slot: slot, Ballot: ballot(n, node), Value: []byte(value)}
}

// text: n bytes, which differ from those of another seed.
func text(seed, n int) string {
	b := make([]byte, n)
	for i := range b {
		b[i] = byte(seed*41 + i*7 + 3)
	}
	return string(b)
}

// fresh: a disk of that many sectors.
func fresh(t *testing.T, sectors int) *disk.Disk {
	t.Helper()
	d, err := disk.New(sectors)
	good(t, "New", err)
	return d
}

// open: an acceptor that opens.
func open(t *testing.T, d *disk.Disk) *accept.Acceptor {
	t.Helper()
	a, err := accept.Open(d)
	if a == nil || err != api.OK {
		t.Fatalf("Open: %v, %d", a, err)
	}
	return a
}

// good: a call went well.
func good(t *testing.T, what string, err api.Errno) {
	t.Helper()
	if err != api.OK {
		t.Fatalf("%s: %d", what, err)
	}
}

func sameVote(a, b api.Vote) bool {
	return a.Slot == b.Slot && a.Ballot == b.Ballot && bytes.Equal(a.Value, b.Value)
}

func sameVotes(a, b []api.Vote) bool {
	return slices.EqualFunc(a, b, sameVote)
}

// copied: votes that share nothing with others.
func copied(l []api.Vote) []api.Vote {
	l = slices.Clone(l)
	for i := range l {
		l[i].Value = bytes.Clone(l[i].Value)
	}
	return l
}

// from: those of rising votes whose slot is not below that one.
func from(l []api.Vote, slot uint64) []api.Vote {
	return slices.DeleteFunc(slices.Clone(l), func(v api.Vote) bool { return v.Slot < slot })
}

// checkPrepare: what Prepare answers.
func checkPrepare(t *testing.T, a *accept.Acceptor, b api.Ballot, slot uint64, votes []api.Vote, promised api.Ballot, want api.Errno) {
	t.Helper()
	if l, p, err := a.Prepare(b, slot); !sameVotes(l, votes) || p != promised || err != want {
		t.Errorf("Prepare(%v, %d): %v, %v, %d, not %v, %v, %d", b, slot, l, p, err, votes, promised, want)
	}
}

// checkAccept: what Accept answers.
func checkAccept(t *testing.T, a *accept.Acceptor, v api.Vote, promised api.Ballot, want api.Errno) {
	t.Helper()
	if p, err := a.Accept(v); p != promised || err != want {
		t.Errorf("Accept(%v): %v, %d, not %v, %d", v, p, err, promised, want)
	}
}

// checkTrim: what Trim answers.
func checkTrim(t *testing.T, a *accept.Acceptor, upto uint64, n int, want api.Errno) {
	t.Helper()
	if got, err := a.Trim(upto); got != n || err != want {
		t.Errorf("Trim(%d): %d, %d, not %d, %d", upto, got, err, n, want)
	}
}

// checkTold: what an acceptor tells, from all slots that matter on.
func checkTold(t *testing.T, a *accept.Acceptor, promised api.Ballot, votes ...api.Vote) {
	t.Helper()
	if p := a.Promised(); p != promised {
		t.Errorf("Promised: %v, not %v", p, promised)
	}
	slots := []uint64{0, 1, 1<<64 - 1}
	for _, v := range votes {
		slots = append(slots, v.Slot-1, v.Slot, v.Slot+1)
	}
	for _, slot := range slots {
		if l := a.Votes(slot); !sameVotes(l, from(votes, slot)) {
			t.Errorf("Votes(%d): %v, not %v", slot, l, from(votes, slot))
		}
	}
}

// checkOver: all calls answer that error, if nothing may not be, and nothing else.
func checkOver(t *testing.T, a *accept.Acceptor, want api.Errno) {
	t.Helper()
	checkTold(t, a, none)
	checkPrepare(t, a, ballot(1, 0), 1, nil, none, want)
	checkPrepare(t, a, ballot(1<<63, 11), 0, nil, none, want)
	checkAccept(t, a, vote(1, 1, 0, "x"), none, want)
	checkAccept(t, a, vote(9, 1<<63, 11, ""), none, want)
	checkTrim(t, a, 1<<64-1, 0, want)
	checkTrim(t, a, 0, 0, want)
	if want == api.ErrDead {
		want = api.ErrArg
	}
	checkPrepare(t, a, none, 1, nil, none, want)
	checkPrepare(t, a, ballot(1, 12), 1, nil, none, want)
	checkAccept(t, a, vote(0, 1, 0, "x"), none, want)
	checkAccept(t, a, vote(1, 0, 0, "x"), none, want)
	checkAccept(t, a, vote(1, 1, 0, text(1, 101)), none, want)
	checkTold(t, a, none)
}

// keptAll: the disk behind a crash that keeps all that waits; the disk itself stays as it is.
func keptAll(d *disk.Disk) *disk.Disk {
	c := d.Clone()
	c.Crash(slices.Repeat([]int{api.Sector}, c.Waiting()))
	return c
}

// keptNone: likewise, behind one that keeps nothing.
func keptNone(d *disk.Disk) *disk.Disk {
	c := d.Clone()
	c.Crash(nil)
	return c
}

// checkLog: which batches stand in the log of a disk, behind a crash that keeps all.
func checkLog(t *testing.T, d *disk.Disk, want ...[]api.Change) {
	t.Helper()
	w, err := wal.Open(keptAll(d))
	good(t, "Open of the log", err)
	var got [][]api.Change
	for _, b := range w.Records() {
		l, err := store.Decode(b)
		good(t, "Decode", err)
		got = append(got, l)
	}
	if !slices.EqualFunc(got, want, slices.Equal[[]api.Change]) {
		t.Errorf("the log has %+v, not %+v", got, want)
	}
}
