package synod_test

import (
	"bytes"
	"math"
	"slices"
	"testing"

	"seawall/api"
	"seawall/synod"
)

var none api.Ballot

// three: any two of three nodes promise, any two accept.
var three = api.Quorum{Kind: 1, Nodes: 3, One: 2, Two: 2}

// shapes: quorums of all kinds.
var shapes = []api.Quorum{
	three,
	{Kind: 1, Nodes: 1, One: 1, Two: 1},
	{Kind: 1, Nodes: 2, One: 1, Two: 2},
	{Kind: 1, Nodes: 4, One: 3, Two: 2},
	{Kind: 1, Nodes: 4, One: 4, Two: 1},
	{Kind: 1, Nodes: 4, One: 1, Two: 4},
	{Kind: 1, Nodes: 5, One: 3, Two: 3},
	{Kind: 2, Nodes: 4, One: 2, Two: 2},
	{Kind: 2, Nodes: 6, One: 3, Two: 2},
	{Kind: 3, Nodes: 4, Sites: []int{0, 0, 1, 1}},
	{Kind: 3, Nodes: 5, Sites: []int{0, 1, 1, 2, 2}},
	{Kind: 3, Nodes: 3, Sites: []int{11, 0, 11}},
}

func ballot(n uint64, node int) api.Ballot {
	return api.Ballot{N: n, Node: node}
}

func vote(n uint64, node int, value string) api.Vote {
	return api.Vote{Slot: 1, Ballot: ballot(n, node), Value: []byte(value)}
}

func mail(kind, from, to int, b api.Ballot, l ...api.Vote) api.Mail {
	return api.Mail{Kind: kind, From: from, To: to, Ballot: b, Votes: l}
}

// text: n bytes, which differ from those of another seed.
func text(seed, n int) string {
	b := make([]byte, n)
	for i := range b {
		b[i] = byte(seed*41 + i*7 + 3)
	}
	return string(b)
}

// noNodes: numbers that are no nodes, of so many nodes.
func noNodes(nodes int) []int {
	return []int{-1, nodes, nodes + 1, 12 + nodes, math.MaxInt, math.MinInt}
}

// made: a room that there is.
func made(t *testing.T, q api.Quorum) *synod.Room {
	t.Helper()
	r, err := synod.New(q)
	if r == nil || err != api.OK {
		t.Fatalf("New(%v): %v, %d", q, r, err)
	}
	return r
}

func sameVote(a, b api.Vote) bool {
	return a.Slot == b.Slot && a.Ballot == b.Ballot && bytes.Equal(a.Value, b.Value)
}

func sameMail(a, b api.Mail) bool {
	return a.Kind == b.Kind && a.From == b.From && a.To == b.To && a.Ballot == b.Ballot && slices.EqualFunc(a.Votes, b.Votes, sameVote)
}

func checkStart(t *testing.T, r *synod.Room, node int, value string, want api.Ballot, wantErr api.Errno) {
	t.Helper()
	own := []byte(value)
	if b, err := r.Start(node, own); b != want || err != wantErr {
		t.Errorf("Start(%d, %q): %v, %d, not %v, %d", node, value, b, err, want, wantErr)
	}
	if string(own) != value {
		t.Errorf("Start made %q of %q", own, value)
	}
	clear(own)
}

// checkTake: letters of these places arrive, one behind the other.
func checkTake(t *testing.T, r *synod.Room, places ...int) {
	t.Helper()
	for _, at := range places {
		if !r.Take(at) {
			t.Errorf("Take(%d) of %d: there is none", at, r.Len())
		}
	}
}

// takeAll: all letters arrive, in order.
func takeAll(t *testing.T, r *synod.Room) {
	t.Helper()
	for n := 0; r.Take(0); n++ {
		if n > 10000 {
			t.Fatal("letters without an end")
		}
	}
	checkRow(t, r)
}

// dropAll: all letters are lost.
func dropAll(t *testing.T, r *synod.Room) {
	t.Helper()
	for r.Drop(0) {
	}
	checkRow(t, r)
}

// checkRow: just these letters lie there.
func checkRow(t *testing.T, r *synod.Room, want ...api.Mail) {
	t.Helper()
	var l []api.Mail
	for at := range r.Len() {
		m, ok := r.Look(at)
		if !ok {
			t.Errorf("Look(%d) of %d: there is none", at, r.Len())
		}
		l = append(l, m)
	}
	if !slices.EqualFunc(l, want, sameMail) {
		t.Errorf("there lie\n%v, not\n%v", l, want)
	}
	for _, at := range []int{-1, r.Len(), r.Len() + 1, math.MinInt, math.MaxInt} {
		if m, ok := r.Look(at); ok || !sameMail(m, api.Mail{}) {
			t.Errorf("Look(%d) of %d: %v, %t", at, r.Len(), m, ok)
		}
	}
}

func checkLearned(t *testing.T, r *synod.Room, node int, value string, want bool) {
	t.Helper()
	if v, ok := r.Learned(node); string(v) != value || ok != want {
		t.Errorf("Learned(%d): %q, %t, not %q, %t", node, v, ok, value, want)
	}
}

func checkVoted(t *testing.T, r *synod.Room, node int, promised api.Ballot, v api.Vote) {
	t.Helper()
	if b, got := r.Voted(node); b != promised || !sameVote(got, v) {
		t.Errorf("Voted(%d): %v, %v, not %v, %v", node, b, got, promised, v)
	}
}

func checkCrash(t *testing.T, r *synod.Room, node int, want api.Errno) {
	t.Helper()
	if err := r.Crash(node); err != want {
		t.Errorf("Crash(%d): %d, not %d", node, err, want)
	}
}
