package net

import (
	"testing"

	"seawall/api"
)

// checkEnd: nothing that was under way stands in the room behind the row.
func checkEnd(t *testing.T, n *Net) {
	t.Helper()
	for at, p := range n.row[len(n.row):cap(n.row)] {
		if p.From != 0 || p.To != 0 || p.Body != nil {
			t.Errorf("%d under way: the room %d behind them has %v", n.Len(), at, p)
		}
	}
}

// What is cut out of the row is not kept.
func TestEndIsCleared(t *testing.T) {
	for size := 1; size < 20; size++ {
		for at := range size {
			n, _ := New(3)
			for range size {
				n.Send(api.Packet{From: 1, To: 2, Body: []byte("a")})
			}
			n.Back(at)
			checkEnd(t, n)
			n.Take(at)
			checkEnd(t, n)
			n.Drop(at / 2)
			checkEnd(t, n)
			n.Twice(at)
			checkEnd(t, n)
			for n.Drop(0) {
				checkEnd(t, n)
			}
			n.Send(api.Packet{From: 1, To: 2})
			n.Take(0)
			checkEnd(t, n)
		}
	}
}

// The room is used again: a net on which few are under way has room for few, however many came and went.
func TestRoomIsUsedAgain(t *testing.T) {
	n, _ := New(1)
	for range 5000 {
		n.Send(api.Packet{Body: []byte("a")})
		n.Send(api.Packet{Body: []byte("b")})
		n.Back(0)
		n.Take(0)
		n.Drop(0)
	}
	if cap(n.row) > 16 {
		t.Errorf("for two under way there is room for %d", cap(n.row))
	}
}
