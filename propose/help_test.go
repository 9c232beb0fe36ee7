package propose_test

import (
	"bytes"
	"math"
	"slices"
	"testing"

	"seawall/api"
	"seawall/propose"
)

var none api.Ballot

// three: any two of three nodes promise, any two accept.
var three = api.Quorum{Kind: 1, Nodes: 3, One: 2, Two: 2}

func ballot(n uint64, node int) api.Ballot {
	return api.Ballot{N: n, Node: node}
}

func vote(slot, n uint64, node int, value string) api.Vote {
	return api.Vote{Slot: slot, Ballot: ballot(n, node), Value: []byte(value)}
}

// text: n bytes, which differ from those of another seed.
func text(seed, n int) string {
	b := make([]byte, n)
	for i := range b {
		b[i] = byte(seed*41 + i*7 + 3)
	}
	return string(b)
}

// made: a proposer that there is.
func made(t *testing.T, q api.Quorum, b api.Ballot, from uint64) *propose.Proposer {
	t.Helper()
	p, err := propose.New(q, b, from)
	if p == nil || err != api.OK {
		t.Fatalf("New(%v, %v, %d): %v, %d", q, b, from, p, err)
	}
	return p
}

// ready: a proposer of the ballot 5 of 0, to which the nodes 0 and 1 of three promised without votes.
func ready(t *testing.T, from uint64) *propose.Proposer {
	t.Helper()
	p := made(t, three, ballot(5, 0), from)
	checkPromise(t, p, 0, nil, api.OK)
	checkPromise(t, p, 1, nil, api.OK)
	return p
}

func sameVote(a, b api.Vote) bool {
	return a.Slot == b.Slot && a.Ballot == b.Ballot && bytes.Equal(a.Value, b.Value)
}

// copied: votes that share nothing with others.
func copied(l []api.Vote) []api.Vote {
	l = slices.Clone(l)
	for i := range l {
		l[i].Value = bytes.Clone(l[i].Value)
	}
	return l
}

func checkPromise(t *testing.T, p *propose.Proposer, node int, l []api.Vote, want api.Errno) {
	t.Helper()
	before := copied(l)
	if err := p.Promise(node, l); err != want {
		t.Errorf("Promise(%d, %v): %d, not %d", node, l, err, want)
	}
	if !slices.EqualFunc(l, before, sameVote) {
		t.Errorf("Promise made %v of %v", l, before)
	}
}

func checkReady(t *testing.T, p *propose.Proposer, want bool) {
	t.Helper()
	if p.Ready() != want {
		t.Errorf("Ready: %t", !want)
	}
}

func checkMust(t *testing.T, p *propose.Proposer, slot uint64, value string, want bool) {
	t.Helper()
	if v, ok := p.Must(slot); string(v) != value || ok != want {
		t.Errorf("Must(%d): %q, %t, not %q, %t", slot, v, ok, value, want)
	}
}

func checkTop(t *testing.T, p *propose.Proposer, want uint64) {
	t.Helper()
	if top := p.Top(); top != want {
		t.Errorf("Top: %d, not %d", top, want)
	}
}

// checkPropose: what is proposed, where it goes well, is at the ballot 5 of 0.
func checkPropose(t *testing.T, p *propose.Proposer, slot uint64, own, value string, want api.Errno) {
	t.Helper()
	var v api.Vote
	if want == api.OK {
		v = vote(slot, 5, 0, value)
	}
	if got, err := p.Propose(slot, []byte(own)); !sameVote(got, v) || err != want {
		t.Errorf("Propose(%d, %q): %v, %d, not %v, %d", slot, own, got, err, v, want)
	}
}

func checkAccepted(t *testing.T, p *propose.Proposer, node int, slot uint64, want api.Errno) {
	t.Helper()
	if err := p.Accepted(node, slot); err != want {
		t.Errorf("Accepted(%d, %d): %d, not %d", node, slot, err, want)
	}
}

func checkChosen(t *testing.T, p *propose.Proposer, slot uint64, value string, want bool) {
	t.Helper()
	if v, ok := p.Chosen(slot); string(v) != value || ok != want {
		t.Errorf("Chosen(%d): %q, %t, not %q, %t", slot, v, ok, value, want)
	}
}

func checkPrefix(t *testing.T, p *propose.Proposer, want uint64) {
	t.Helper()
	if at := p.Prefix(); at != want {
		t.Errorf("Prefix: %d, not %d", at, want)
	}
}

// noNodes: numbers that are no node's of so many.
func noNodes(nodes int) []int {
	return []int{nodes, nodes + 1, 31, 32, 64, 1 << 32, math.MaxInt, -1, -2, -31, -32, -64, -1 << 32, math.MinInt}
}
