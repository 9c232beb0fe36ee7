package synod_test

import (
	"math/rand"
	"strconv"
	"testing"

	"seawall/api"
	"seawall/quorum"
	"seawall/synod"
)

// watch goes along with a room, and knows only what the room tells: who promised and voted, and who has learned what.
type watch struct {
	r        *synod.Room
	q        api.Quorum
	said     map[string]bool // all values that nodes were started with
	started  map[api.Ballot]bool
	promised []api.Ballot
	voters   map[api.Ballot]uint32 // who has voted at a ballot
	values   map[api.Ballot]string // for what
	chosen   map[string]bool
	learned  int
}

func newWatch(t *testing.T, q api.Quorum) *watch {
	return &watch{
		r: made(t, q), q: q, said: map[string]bool{}, started: map[api.Ballot]bool{},
		promised: make([]api.Ballot, q.Nodes),
		voters:   map[api.Ballot]uint32{}, values: map[api.Ballot]string{}, chosen: map[string]bool{},
	}
}

// start: with a value that nobody was started with.
func (w *watch) start(t *testing.T, node int) {
	t.Helper()
	own := strconv.Itoa(len(w.said))
	w.said[own] = true
	b, err := w.r.Start(node, []byte(own))
	if err != api.OK || b.Node != node || w.started[b] {
		t.Fatalf("Start(%d): %v, %d; started before: %t", node, b, err, w.started[b])
	}
	w.started[b] = true
}

// check: a promise never falls; a ballot's votes have one value; at most one value is chosen, of those that nodes were started with; and that is what nodes have learned.
func (w *watch) check(t *testing.T) {
	t.Helper()
	for node := range w.q.Nodes {
		promised, v := w.r.Voted(node)
		if plainLess(promised, w.promised[node]) || plainLess(promised, v.Ballot) {
			t.Fatalf("the node %d promised %v, and promises %v, with the vote %v", node, w.promised[node], promised, v)
		}
		w.promised[node] = promised
		if v.Slot == 1 {
			w.vote(t, node, v)
		}
	}
	for node := range w.q.Nodes {
		if v, ok := w.r.Learned(node); ok {
			w.learned++
			if !w.chosen[string(v)] {
				t.Fatalf("the node %d has learned %q, of those chosen: %v", node, v, w.chosen)
			}
		}
	}
}

func (w *watch) vote(t *testing.T, node int, v api.Vote) {
	t.Helper()
	if w.voters[v.Ballot] != 0 && w.values[v.Ballot] != string(v.Value) {
		t.Fatalf("at %v there are votes for %q and for %q", v.Ballot, v.Value, w.values[v.Ballot])
	}
	w.voters[v.Ballot] |= 1 << node
	w.values[v.Ballot] = string(v.Value)
	if quorum.Second(w.q, w.voters[v.Ballot]) {
		w.chosen[string(v.Value)] = true
	}
	if len(w.chosen) > 1 || !w.said[string(v.Value)] {
		t.Fatalf("%v are chosen, of %d values", w.chosen, len(w.said))
	}
}

// step: one act that the draw takes; few of the letters are lost.
func (w *watch) step(t *testing.T, draw *rand.Rand) {
	t.Helper()
	node, at := draw.Intn(w.q.Nodes), 0
	if n := w.r.Len(); n > 0 {
		at = draw.Intn(n)
	}
	switch c := draw.Intn(100); {
	case c < 4:
		w.start(t, node)
	case c < 6:
		w.r.Crash(node)
	case c < 11:
		w.r.Drop(at)
	case c < 20:
		w.r.Twice(at)
	default:
		w.r.Take(at)
	}
}

// At most one value is chosen, through whatever losses, doublings, crashes and duels, under quorums of all kinds.
func TestOneValue(t *testing.T) {
	chosen, votes, learned := 0, 0, 0
	for k, q := range shapes {
		for seed := range 60 {
			draw := rand.New(rand.NewSource(int64(k*1000 + seed)))
			w := newWatch(t, q)
			for range 400 {
				w.step(t, draw)
				w.check(t)
			}
			chosen += len(w.chosen)
			votes += len(w.values)
			learned += min(w.learned, 1)
		}
	}
	t.Logf("%d values were chosen; there were votes at %d ballots; %d learned one", chosen, votes, learned)
	if chosen < 500 || votes < 2*chosen || learned < 300 {
		t.Errorf("%d values were chosen; there were votes at %d ballots; %d learned one: too few to tell", chosen, votes, learned)
	}
}

// Behind all duels, once letters come, whoever is started till it is ahead of all learns the value that was chosen.
func TestLearnsBehindDuels(t *testing.T) {
	for k, q := range shapes {
		for seed := range 10 {
			draw := rand.New(rand.NewSource(int64(k*100 + seed)))
			w := newWatch(t, q)
			for range 200 {
				w.step(t, draw)
				w.check(t)
			}
			dropAll(t, w.r)
			node := draw.Intn(q.Nodes)
			for n := 0; ; n++ {
				w.r.Crash(node)
				w.start(t, node)
				takeAll(t, w.r)
				w.check(t)
				if _, ok := w.r.Learned(node); ok {
					break
				}
				if n > 200 {
					t.Fatalf("the node %d learned nothing by %d starts", node, n)
				}
			}
		}
	}
}
