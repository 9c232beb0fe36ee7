package once_test

import (
	"bytes"
	"slices"
	"testing"

	"seawall/api"
	"seawall/once"
)

// What Begin answers.
const (
	begun    = 1
	answered = 2
	underWay = 3
)

// under: a client whose request is under way.
func under(id, number uint64) api.Client {
	return api.Client{ID: id, Number: number, Busy: true}
}

// done: a client whose request was answered.
func done(id, number uint64, reply string) api.Client {
	return api.Client{ID: id, Number: number, Reply: []byte(reply)}
}

// text: n bytes, which differ from those of another seed.
func text(seed, n int) string {
	b := make([]byte, n)
	for i := range b {
		b[i] = byte(seed*41 + i*7 + 3)
	}
	return string(b)
}

func sameClient(a, b api.Client) bool {
	return a.ID == b.ID && a.Number == b.Number && a.Busy == b.Busy && bytes.Equal(a.Reply, b.Reply)
}

// made: a table for so many clients.
func made(t *testing.T, most int) *once.Table {
	t.Helper()
	x, err := once.New(most)
	if x == nil || err != api.OK {
		t.Fatalf("New(%d): %v, %d", most, x, err)
	}
	return x
}

// table: one that remembers these clients.
func table(t *testing.T, most int, clients ...api.Client) *once.Table {
	t.Helper()
	x := made(t, most)
	for _, c := range clients {
		checkBegin(t, x, c.ID, c.Number, begun, "")
		if !c.Busy {
			checkEnd(t, x, c.ID, c.Number, string(c.Reply), api.OK)
		}
	}
	checkClients(t, x, clients...)
	return x
}

func checkBegin(t *testing.T, x *once.Table, id, number uint64, kind int, reply string) {
	t.Helper()
	k, b, err := x.Begin(id, number)
	if k != kind || string(b) != reply || err != api.OK {
		t.Errorf("Begin(%d, %d): %d, %q, %d, not %d, %q", id, number, k, b, err, kind, reply)
	}
}

func checkNoBegin(t *testing.T, x *once.Table, id, number uint64, want api.Errno) {
	t.Helper()
	k, b, err := x.Begin(id, number)
	if k != 0 || len(b) > 0 || err != want {
		t.Errorf("Begin(%d, %d): %d, %q, %d, not %d", id, number, k, b, err, want)
	}
}

func checkEnd(t *testing.T, x *once.Table, id, number uint64, reply string, want api.Errno) {
	t.Helper()
	own := append([]byte(reply), "behind"...)[:len(reply)]
	if err := x.End(id, number, own); err != want {
		t.Errorf("End(%d, %d, %q): %d, not %d", id, number, reply, err, want)
	}
	if behind := own[:len(own)+6]; string(behind) != reply+"behind" {
		t.Errorf("End(%d, %d, %q) made that %q", id, number, reply, behind)
	}
	clear(own)
}

func checkClients(t *testing.T, x *once.Table, want ...api.Client) {
	t.Helper()
	if l := x.Clients(); !slices.EqualFunc(l, want, sameClient) {
		t.Errorf("Clients: %v, not %v", l, want)
	}
}

func checkCounts(t *testing.T, x *once.Table, begun, again int) {
	t.Helper()
	if n, m := x.Counts(); n != begun || m != again {
		t.Errorf("Counts: %d, %d, not %d, %d", n, m, begun, again)
	}
}

func checkSave(t *testing.T, x *once.Table, want string) {
	t.Helper()
	if b := x.Save(); string(b) != want {
		t.Errorf("Save: %x, not %x", b, want)
	}
}

// loaded: the table of bytes, which are its own.
func loaded(t *testing.T, s string) *once.Table {
	t.Helper()
	own := append([]byte(s), "behind"...)[:len(s)]
	x, err := once.Load(own)
	if x == nil || err != api.OK {
		t.Fatalf("Load(%x): %v, %d", s, x, err)
	}
	if behind := own[:len(own)+6]; string(behind) != s+"behind" {
		t.Errorf("Load(%x) made that %x", s, behind)
	}
	clear(own)
	checkSave(t, x, s)
	return x
}

func checkNoLoad(t *testing.T, s string) {
	t.Helper()
	if x, err := once.Load([]byte(s)); x != nil || err != api.ErrForm {
		t.Errorf("Load(%x): %v, %d", s, x, err)
	}
}
