package once_test

import (
	"math/rand"
	"testing"

	"seawall/api"
	"seawall/once"
)

// request is a client's.
type request struct {
	id, number uint64
}

// replica does requests, each of which must be done once alone.
type replica struct {
	x    *once.Table
	done map[request]string // what it did, and what it answered
	sum  int                // hangs on the order in which it did all
}

// hear: a request comes, for the first time or again; the reply, if there is one now. If it is to wait, it is under way for a while.
func (r *replica) hear(t *testing.T, q request, wait bool) (string, bool) {
	t.Helper()
	kind, b, err := r.x.Begin(q.id, q.number)
	was, did := r.done[q]
	switch {
	case err == api.ErrOld && did:
		return "", false
	case err != api.OK:
		t.Fatalf("%v: %d", q, err)
	case kind == answered:
		if !did || string(b) != was {
			t.Fatalf("%v is answered %q, not %q (%t)", q, b, was, did)
		}
		return string(b), true
	case kind == begun && did:
		t.Fatalf("%v is begun a second time", q)
	case kind == underWay && did:
		t.Fatalf("%v is under way, though it was answered", q)
	}
	if wait {
		return "", false
	}
	return r.do(t, q), true
}

// do: a request is done, and its reply is remembered.
func (r *replica) do(t *testing.T, q request) string {
	t.Helper()
	r.sum = r.sum*31 + int(q.id*100+q.number)
	reply := text(r.sum, r.sum&7)
	r.done[q] = reply
	checkEnd(t, r.x, q.id, q.number, reply, api.OK)
	return reply
}

// asker is a client that asks for one thing behind the other, each till it is answered.
type asker struct {
	at   request
	sent []request // all that may still be heard, late or twice
}

// What is asked again is not done again, whatever is lost, late or doubled, and whenever the replica goes on by its table's bytes.
func TestOnce(t *testing.T) {
	asked, again := 0, 0
	for seed := range 200 {
		draw := rand.New(rand.NewSource(int64(seed)))
		clients := 1 + draw.Intn(6)
		r := &replica{x: made(t, clients+draw.Intn(2)), done: map[request]string{}}
		l := make([]asker, clients)
		for i := range l {
			l[i].at = request{uint64(i), 1}
		}
		for range 400 {
			a := &l[draw.Intn(clients)]
			switch c := draw.Intn(100); {
			case c < 50:
				a.sent = append(a.sent, a.at)
			case c < 55:
				r.x = loaded(t, string(r.x.Save()))
			case len(a.sent) > 0:
				n := draw.Intn(len(a.sent))
				q := a.sent[n]
				if c < 70 { // else it is heard another time
					a.sent = append(a.sent[:n], a.sent[n+1:]...)
				}
				before := len(r.done)
				_, ok := r.hear(t, q, draw.Intn(3) == 0)
				asked++
				if ok && len(r.done) == before {
					again++
				}
				if ok && q == a.at && draw.Intn(3) > 0 { // else the reply is lost
					a.at.number += 1 + uint64(draw.Intn(2))
				}
			}
		}
	}
	t.Logf("%d were heard, %d answered again", asked, again)
	if again < 3000 {
		t.Errorf("of %d that were heard only %d were answered again", asked, again)
	}
}

// Replicas that apply one row of requests remember the same, whoever was saved and loaded on the way.
func TestReplicasAgree(t *testing.T) {
	for seed := range 200 {
		draw := rand.New(rand.NewSource(int64(seed)))
		most := 1 + draw.Intn(5)
		x, y := made(t, most), made(t, most)
		for range 200 {
			q := request{uint64(draw.Intn(8)), uint64(draw.Intn(6))}
			if draw.Intn(10) == 0 {
				y = loaded(t, string(x.Save()))
			}
			k, b, err := x.Begin(q.id, q.number)
			k2, b2, err2 := y.Begin(q.id, q.number)
			if k != k2 || string(b) != string(b2) || err != err2 {
				t.Fatalf("%v: %d, %q, %d and %d, %q, %d", q, k, b, err, k2, b2, err2)
			}
			if k == begun && draw.Intn(4) > 0 {
				reply := text(int(q.number), int(q.id))
				checkEnd(t, x, q.id, q.number, reply, api.OK)
				checkEnd(t, y, q.id, q.number, reply, api.OK)
			}
			checkSave(t, y, string(x.Save()))
		}
	}
}

// A client's numbers never fall, as long as it is remembered.
func TestNumbersRise(t *testing.T) {
	draw := rand.New(rand.NewSource(1))
	x := made(t, 4)
	last := map[uint64]uint64{}
	for range 20000 {
		id, number := uint64(draw.Intn(6)), uint64(draw.Intn(50))
		if _, _, err := x.Begin(id, number); err == api.OK && draw.Intn(3) > 0 {
			checkEnd(t, x, id, number, "", endOf(x, id))
		}
		now := map[uint64]uint64{}
		for _, c := range x.Clients() {
			now[c.ID] = c.Number
			if c.Number < last[c.ID] {
				t.Fatalf("the number of %d fell from %d to %d", c.ID, last[c.ID], c.Number)
			}
		}
		last = now
	}
}

// endOf: what End is to answer, by whether the client is under way.
func endOf(x *once.Table, id uint64) api.Errno {
	for _, c := range x.Clients() {
		if c.ID == id && c.Busy {
			return api.OK
		}
	}
	return api.ErrNone
}
