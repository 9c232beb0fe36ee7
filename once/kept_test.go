package once

import (
	"testing"

	"seawall/api"
)

// built: has x places of the order as it is?
func built(x *Table) bool {
	is := true
	x.built.Do(func() { is = false })
	if !is {
		x.reorder()
	}
	return is
}

// Places are built when they are asked for first, and anew when the order was changed.
func TestBuiltOnce(t *testing.T) {
	x, _ := New(3)
	check := func(want bool) {
		t.Helper()
		if built(x) != want {
			t.Errorf("built: %t", !want)
		}
	}
	check(false)
	x.End(7, 1, nil)
	check(true)
	x.Begin(7, 1)
	check(false)
	x.Begin(7, 1)
	x.End(7, 1, nil)
	x.Begin(7, 2)
	check(true)
	x.Begin(8, 1)
	check(false)
	x.Begin(8, 1)
	check(true)
	x.End(8, 1, nil)
	x.Begin(8, 2)
	check(true)
	x.Begin(7, 1)
	x.Begin(9, 0)
	check(true)
	x.Begin(7, 2)
	check(false)
	x.End(8, 7, nil)
	x.Save()
	x.Clients()
	x.Counts()
	check(true)

	x, _ = Load(x.Save())
	check(false)
}

// Places are of all that are remembered, and of nobody else.
func TestPlaces(t *testing.T) {
	x, _ := New(3)
	for id := range uint64(9) {
		x.Begin(id, 1)
		x.End(id, 1, []byte("a"))
		x.Begin(id/2+1, 1)
	}
	x.find(0)
	if len(x.places) != len(x.clients) {
		t.Errorf("places: %v of %v", x.places, x.clients)
	}
	for i, c := range x.clients {
		if at, known := x.find(c.ID); at != i || !known {
			t.Errorf("find(%d): %d, %t, not %d", c.ID, at, known, i)
		}
	}
}

// Of who was forgotten, and of replies that were followed by a new request, nothing is left.
func TestNothingLeft(t *testing.T) {
	x, _ := New(4)
	check := func() {
		t.Helper()
		if len(x.clients) > 4 {
			t.Errorf("%d clients are kept", len(x.clients))
		}
		for _, c := range x.clients {
			if c.Busy && c.Reply != nil {
				t.Errorf("of %d, which is under way, a reply is kept", c.ID)
			}
		}
		for _, c := range x.clients[len(x.clients):cap(x.clients)] {
			if c.ID != 0 || c.Reply != nil {
				t.Errorf("behind the end %v is kept", c)
			}
		}
	}
	for id := range uint64(20) {
		x.Begin(id+1, 1)
		check()
		x.End(id+1, 1, make([]byte, api.MaxReply))
		check()
		x.Begin(id/2+1, 2)
		check()
		x.End(id/2+1, 2, []byte("a"))
		check()
	}
}
