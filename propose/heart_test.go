package propose_test

import (
	"math/rand"
	"strconv"
	"testing"

	"seawall/accept"
	"seawall/api"
	"seawall/disk"
	"seawall/propose"
	"seawall/quorum"
)

// hall has layer 9's acceptors, each on a disk of its own, and proposers with ballots of their own. What is asked and answered lies about till the draw takes it: late, or never.
type hall struct {
	q         api.Quorum
	draw      *rand.Rand
	disks     []*disk.Disk
	acceptors []*accept.Acceptor
	proposers []*propose.Proposer
	ballots   []api.Ballot
	late      []func()
	said      map[string]bool      // all that proposers were given as their own
	voted     map[where]uint32     // which nodes voted in a slot at a ballot
	values    map[where]string     // for which value
	chosen    map[uint64]([]where) // at which ballots a slot's value was chosen
}

type where struct {
	slot uint64
	b    api.Ballot
}

const slots = 3

func newHall(t *testing.T, q api.Quorum, draw *rand.Rand) *hall {
	h := &hall{q: q, draw: draw, said: map[string]bool{}, voted: map[where]uint32{}, values: map[where]string{}, chosen: map[uint64][]where{}}
	for range q.Nodes {
		d, err := disk.New(60)
		if err != api.OK {
			t.Fatal(err)
		}
		h.disks = append(h.disks, d)
		h.acceptors = append(h.acceptors, nil)
		h.crash(t, len(h.acceptors)-1)
	}
	return h
}

// crash: an acceptor begins anew, with what its disk has.
func (h *hall) crash(t *testing.T, node int) {
	t.Helper()
	d := h.disks[node]
	keep := make([]int, d.Waiting())
	for i := range keep {
		keep[i] = h.draw.Intn(api.Sector + 1)
	}
	d.Crash(keep)
	a, err := accept.Open(d)
	if err != api.OK {
		t.Fatalf("Open: %d", err)
	}
	h.acceptors[node] = a
}

// begin: one more proposer, of a ballot that nobody has.
func (h *hall) begin(t *testing.T) {
	t.Helper()
	b := ballot(1+uint64(h.draw.Intn(6)), h.draw.Intn(3))
	for _, other := range h.ballots {
		if other == b {
			return
		}
	}
	h.proposers = append(h.proposers, made(t, h.q, b, 1))
	h.ballots = append(h.ballots, b)
}

// prepare: a node is asked to promise, and its answer comes at some time.
func (h *hall) prepare(t *testing.T, i, node int) {
	t.Helper()
	votes, _, err := h.acceptors[node].Prepare(h.ballots[i], 1)
	if err == api.ErrBallot {
		return
	}
	if err != api.OK {
		t.Fatalf("Prepare: %d", err)
	}
	h.late = append(h.late, func() {
		// A node that has voted at this ballot already promises it again, with that vote: such a promise is none.
		voted := false
		for _, v := range votes {
			voted = voted || v.Ballot == h.ballots[i]
		}
		if err := h.proposers[i].Promise(node, votes); err != api.OK && !(voted && err == api.ErrVote) {
			t.Fatalf("Promise(%d, %v): %d", node, votes, err)
		}
	})
}

// propose: a slot's vote, for which a node is asked at some time.
func (h *hall) propose(t *testing.T, i, node int, slot uint64) {
	t.Helper()
	own := strconv.Itoa(len(h.said))
	h.said[own] = true
	v, err := h.proposers[i].Propose(slot, []byte(own))
	if ready := h.proposers[i].Ready(); (err == api.OK) != ready || err != api.OK && err != api.ErrState {
		t.Fatalf("Propose: %d, ready: %t", err, ready)
	}
	if err == api.OK {
		h.late = append(h.late, func() { h.accept(t, i, node, v) })
	}
}

// accept: a node votes, if it may; that is told at some time.
func (h *hall) accept(t *testing.T, i, node int, v api.Vote) {
	t.Helper()
	_, err := h.acceptors[node].Accept(v)
	if err == api.ErrBallot {
		return
	}
	if err != api.OK {
		t.Fatalf("Accept: %d", err)
	}
	h.late = append(h.late, func() {
		if err := h.proposers[i].Accepted(node, v.Slot); err != api.OK {
			t.Fatalf("Accepted(%d, %d): %d", node, v.Slot, err)
		}
	})
	at := where{slot: v.Slot, b: v.Ballot}
	if h.voted[at] != 0 && h.values[at] != string(v.Value) {
		t.Fatalf("in the slot %d at %v: %q and %q", v.Slot, v.Ballot, h.values[at], v.Value)
	}
	before := quorum.Second(h.q, h.voted[at])
	h.voted[at] |= 1 << node
	h.values[at] = string(v.Value)
	if !before && quorum.Second(h.q, h.voted[at]) {
		h.chosen[v.Slot] = append(h.chosen[v.Slot], at)
	}
}

// check: of each slot one value at most is chosen, which somebody was given; who is Ready, of a greater ballot, proposes it; who says that a value is chosen says that one.
func (h *hall) check(t *testing.T) {
	t.Helper()
	for slot, l := range h.chosen {
		value := h.values[l[0]]
		if !h.said[value] {
			t.Fatalf("%q is chosen, and nobody's", value)
		}
		for _, at := range l {
			if h.values[at] != value {
				t.Fatalf("in the slot %d %q and %q are chosen", slot, value, h.values[at])
			}
			h.checkBound(t, at, value)
		}
	}
	for i, p := range h.proposers {
		for slot := uint64(1); slot <= slots; slot++ {
			at := where{slot: slot, b: h.ballots[i]}
			if v, ok := p.Chosen(slot); ok && (!quorum.Second(h.q, h.voted[at]) || h.values[at] != string(v)) {
				t.Fatalf("a proposer says that %q is chosen at %v, and %q has the votes of %b", v, at, h.values[at], h.voted[at])
			}
		}
	}
}

// checkBound: at each ballot above that one who is Ready proposes the value.
func (h *hall) checkBound(t *testing.T, at where, value string) {
	t.Helper()
	for i, p := range h.proposers {
		if !p.Ready() || !accept.Less(at.b, h.ballots[i]) {
			continue
		}
		if v, err := p.Propose(at.slot, []byte("none's")); err != api.OK || string(v.Value) != value {
			t.Fatalf("in the slot %d %q is chosen at %v, and at %v %q is proposed (%d)", at.slot, value, at.b, h.ballots[i], v.Value, err)
		}
	}
}

// step: one thing that the draw takes.
func (h *hall) step(t *testing.T) {
	t.Helper()
	i, node := h.draw.Intn(len(h.proposers)), h.draw.Intn(h.q.Nodes)
	switch c := h.draw.Intn(40); {
	case c < 2:
		h.begin(t)
	case c < 10:
		h.prepare(t, i, node)
	case c < 20:
		h.propose(t, i, node, 1+uint64(h.draw.Intn(slots)))
	case c < 21:
		h.crash(t, node)
	case len(h.late) > 0:
		n := h.draw.Intn(len(h.late))
		what := h.late[n]
		if c < 38 { // else it stays, and comes twice
			h.late = append(h.late[:n], h.late[n+1:]...)
		}
		if c > 22 { // else it is lost
			what()
		}
	}
}

// The heart of Flexible Paxos, for quorums of all kinds.
func TestHeart(t *testing.T) {
	chosen, again := 0, 0
	for k, q := range []api.Quorum{
		three,
		{Kind: 1, Nodes: 1, One: 1, Two: 1},
		{Kind: 1, Nodes: 4, One: 3, Two: 2},
		{Kind: 1, Nodes: 4, One: 4, Two: 1},
		{Kind: 1, Nodes: 4, One: 1, Two: 4},
		{Kind: 2, Nodes: 4, One: 2, Two: 2},
		{Kind: 2, Nodes: 6, One: 3, Two: 2},
		{Kind: 3, Nodes: 4, Sites: []int{0, 0, 1, 1}},
		{Kind: 3, Nodes: 5, Sites: []int{0, 1, 1, 2, 2}},
	} {
		for seed := range 40 {
			h := newHall(t, q, rand.New(rand.NewSource(int64(k*1000+seed))))
			h.begin(t)
			for range 300 {
				h.step(t)
				h.check(t)
			}
			for _, l := range h.chosen {
				chosen++
				again += len(l) - 1
			}
		}
	}
	if chosen < 300 || again < 100 {
		t.Errorf("%d values were chosen, and %d again at another ballot: too few to tell", chosen, again)
	}
}
