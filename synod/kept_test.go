package synod

import (
	"testing"

	"seawall/api"
)

func made(t *testing.T) *Room {
	t.Helper()
	r, err := New(api.Quorum{Kind: 1, Nodes: 2, One: 2, Two: 2})
	if err != api.OK {
		t.Fatal(err)
	}
	return r
}

// No acts within the bound bring a node to what it may see at most: it is set here.
func TestMostSeen(t *testing.T) {
	r := made(t)
	r.nodes[1].seen = 1<<62 - 1
	want := api.Ballot{N: 1 << 62, Node: 1}
	if b, err := r.Start(1, []byte("a")); b != want || err != api.OK {
		t.Errorf("Start: %v, %d", b, err)
	}
	for _, x := range []struct {
		node  int
		value []byte
		err   api.Errno
	}{{1, nil, api.ErrFull}, {1, make([]byte, 101), api.ErrArg}, {2, nil, api.ErrArg}} {
		if b, err := r.Start(x.node, x.value); b != (api.Ballot{}) || err != x.err || r.Len() != 2 {
			t.Errorf("Start(%d): %v, %d, not %d; %d letters", x.node, b, err, x.err, r.Len())
		}
	}
	// The other node has not seen it yet; the proposer that there was goes on.
	for r.Take(0) {
	}
	if v, ok := r.Learned(1); string(v) != "a" || !ok {
		t.Errorf("Learned: %q, %t", v, ok)
	}
	if b, err := r.Start(0, nil); b != (api.Ballot{}) || err != api.ErrFull {
		t.Errorf("Start: %v, %d", b, err)
	}
	if b, v := r.Voted(0); b != want || v.Ballot != want {
		t.Errorf("Voted: %v, %v", b, v)
	}
}

// Of a crashed node there is what outlives a crash, and no more; of a letter that went, nothing.
func TestKeepsNoMore(t *testing.T) {
	r := made(t)
	r.Start(0, []byte("a"))
	for r.Take(0) {
	}
	r.Start(0, []byte("b"))
	before := r.nodes[0].lasting
	r.Crash(0)
	n := r.nodes[0]
	if n.proposer != nil || n.ballot != (api.Ballot{}) || n.own != nil || n.learned != nil || n.knows {
		t.Errorf("behind a crash there is %v", n)
	}
	if n.promised != before.promised || n.seen != 2 || before.seen != 2 || string(n.vote.Value) != "a" {
		t.Errorf("behind a crash there is %v, not %v", n.lasting, before)
	}
	for r.Drop(0) {
	}
	for _, m := range r.letters[:cap(r.letters)] {
		if m.Kind != 0 || m.Votes != nil {
			t.Errorf("of letters that went %v is kept", m)
		}
	}
}
