package propose_test

import (
	"math"
	"testing"

	"seawall/api"
	"seawall/propose"
)

// The chapter's example.
func TestExample(t *testing.T) {
	p := made(t, three, ballot(5, 0), 1)
	checkPromise(t, p, 0, nil, api.OK)
	checkReady(t, p, false)
	checkPromise(t, p, 2, []api.Vote{vote(1, 3, 1, "x")}, api.OK)
	checkReady(t, p, true)
	checkPropose(t, p, 1, "y", "x", api.OK)
	checkPropose(t, p, 2, "y", "y", api.OK)
	checkAccepted(t, p, 0, 1, api.OK)
	checkAccepted(t, p, 1, 1, api.OK)
	checkChosen(t, p, 1, "x", true)
	checkPrefix(t, p, 1)
}

// What may be, and what may not; where several may not, the first is told.
func TestNew(t *testing.T) {
	meet := api.Quorum{Kind: 1, Nodes: 3, One: 1, Two: 2}
	sites := api.Quorum{Kind: 3, Nodes: 2, Sites: []int{0, 11}}
	for _, x := range []struct {
		q    api.Quorum
		b    api.Ballot
		from uint64
		err  api.Errno
	}{
		{three, ballot(1, 0), 1, api.OK},
		{three, ballot(math.MaxUint64, 11), math.MaxUint64, api.OK}, // a ballot's node need not be one of q's
		{sites, ballot(1, 1), 7, api.OK},
		{api.Quorum{Kind: 2, Nodes: 12, One: 3, Two: 4}, ballot(2, 5), 1, api.OK},
		{three, ballot(1, 0), 0, api.ErrArg},
		{three, none, 1, api.ErrArg},
		{three, ballot(0, 1), 1, api.ErrArg},
		{three, ballot(1, -1), 1, api.ErrArg},
		{three, ballot(1, 12), 1, api.ErrArg},
		{three, ballot(1, math.MaxInt), 1, api.ErrArg},
		{meet, ballot(1, 0), 1, api.ErrMeet},
		{meet, none, 0, api.ErrMeet},
		{api.Quorum{}, ballot(1, 0), 1, api.ErrArg},
		{api.Quorum{Kind: 1, Nodes: 13, One: 13, Two: 13}, ballot(1, 0), 1, api.ErrArg},
		{api.Quorum{Kind: 3, Nodes: 2, Sites: []int{0, 12}}, ballot(1, 0), 1, api.ErrArg},
		{api.Quorum{Kind: 2, Nodes: 12, One: 3, Two: 3}, ballot(1, 0), 1, api.ErrArg},
	} {
		p, err := propose.New(x.q, x.b, x.from)
		if err != x.err || (p != nil) != (err == api.OK) {
			t.Errorf("New(%v, %v, %d): %v, %d, not %d", x.q, x.b, x.from, p, err, x.err)
		}
	}
}

// A new proposer has gathered nothing.
func TestNothingGathered(t *testing.T) {
	for _, from := range []uint64{1, 2, 100, 1 << 63, math.MaxUint64} {
		p := made(t, three, ballot(5, 0), from)
		checkReady(t, p, false)
		checkTop(t, p, 0)
		checkPrefix(t, p, from-1)
		for _, slot := range []uint64{0, 1, from - 1, from, from + 1, math.MaxUint64} {
			checkMust(t, p, slot, "", false)
			checkChosen(t, p, slot, "", false)
			checkPropose(t, p, slot, "own", "", api.ErrState)
			checkAccepted(t, p, 0, slot, api.ErrNone)
		}
	}
}

// All calls of nil.
func TestNil(t *testing.T) {
	var p *propose.Proposer
	for _, node := range []int{0, -1, 12} {
		checkPromise(t, p, node, nil, api.ErrNil)
		checkPromise(t, p, node, []api.Vote{{}}, api.ErrNil)
		checkAccepted(t, p, node, 1, api.ErrNil)
	}
	checkReady(t, p, false)
	checkTop(t, p, 0)
	checkPrefix(t, p, 0)
	for _, slot := range []uint64{0, 1, math.MaxUint64} {
		checkMust(t, p, slot, "", false)
		checkChosen(t, p, slot, "", false)
		checkPropose(t, p, slot, text(1, 101), "", api.ErrNil)
	}
}

// Just the nodes of the quorums promise and accept.
func TestNodes(t *testing.T) {
	for nodes := 1; nodes <= api.MaxNodes; nodes++ {
		p := made(t, api.Quorum{Kind: 1, Nodes: nodes, One: nodes, Two: nodes}, ballot(5, 0), 1)
		for _, node := range noNodes(nodes) {
			checkPromise(t, p, node, nil, api.ErrArg)
			checkPromise(t, p, node, []api.Vote{{}}, api.ErrArg)
			checkAccepted(t, p, node, 1, api.ErrArg)
		}
		for node := range nodes {
			checkReady(t, p, false)
			checkPromise(t, p, node, nil, api.OK)
			checkPromise(t, p, node, nil, api.OK)
		}
		checkReady(t, p, true)
		checkPropose(t, p, 1, "a", "a", api.OK)
		for _, node := range noNodes(nodes) {
			checkAccepted(t, p, node, 1, api.ErrArg)
		}
		for node := range nodes {
			checkChosen(t, p, 1, "", false)
			checkAccepted(t, p, node, 1, api.OK)
			checkAccepted(t, p, node, 1, api.OK)
		}
		checkChosen(t, p, 1, "a", true)
		checkPrefix(t, p, 1)
	}
}

// The first phase has the quorums of the first one, the second those of the second.
func TestPhases(t *testing.T) {
	rows := api.Quorum{Kind: 2, Nodes: 6, One: 2, Two: 3}
	p := made(t, rows, ballot(5, 0), 1)
	for _, node := range []int{0, 3, 1} { // a column, and one more
		checkPromise(t, p, node, nil, api.OK)
	}
	checkPropose(t, p, 1, "a", "", api.ErrState)
	checkPromise(t, p, 2, nil, api.OK)
	checkReady(t, p, true)
	checkPropose(t, p, 1, "a", "a", api.OK)
	for _, node := range []int{0, 1, 2} { // a row
		checkAccepted(t, p, node, 1, api.OK)
	}
	checkChosen(t, p, 1, "", false)
	checkAccepted(t, p, 4, 1, api.OK)
	checkChosen(t, p, 1, "a", true)
}

// Votes that may be: as near as may be to those that may not.
func TestVotes(t *testing.T) {
	for _, l := range [][]api.Vote{
		{vote(3, 1, 0, "")},
		{vote(3, 5, 3, ""), vote(4, 5, 3, text(1, 100)), vote(math.MaxUint64, 4, 11, "a")},
		{vote(math.MaxUint64, 1, 11, "")},
		{vote(9, 2, 0, "a"), vote(10, 1, 0, "a")},
	} {
		p := made(t, three, ballot(5, 4), 3)
		checkPromise(t, p, 1, l, api.OK)
		for _, v := range l {
			checkMust(t, p, v.Slot, string(v.Value), true)
		}
		checkTop(t, p, l[len(l)-1].Slot)
	}
}

// Votes that may not be: nothing of such a list is told, and the node has not promised.
func TestErrVote(t *testing.T) {
	p := made(t, three, ballot(5, 4), 3)
	checkPromise(t, p, 0, nil, api.OK)
	good := vote(3, 1, 0, "good")
	for _, l := range [][]api.Vote{
		{vote(2, 1, 0, "")},
		{vote(0, 1, 0, "")},
		{vote(2, 1, 0, ""), vote(3, 1, 0, "")},
		{good, vote(3, 1, 0, "good")},
		{good, vote(2, 1, 0, "")},
		{good, vote(5, 1, 0, ""), vote(4, 1, 0, "")},
		{good, vote(5, 1, 0, ""), vote(5, 2, 0, "")},
		{good, vote(math.MaxUint64, 1, 0, ""), vote(0, 1, 0, "")},
		{vote(math.MaxUint64, 1, 0, ""), vote(math.MaxUint64, 1, 0, "")},
		{{Slot: 3}},
		{good, {Slot: 4, Ballot: ballot(0, 3)}},
		{good, vote(4, 1, -1, "")},
		{good, vote(4, 1, 12, "")},
		{good, vote(4, 5, 4, "")},
		{good, vote(4, 5, 5, "")},
		{good, vote(4, 6, 0, "")},
		{good, vote(4, math.MaxUint64, 11, "")},
		{good, vote(4, 1, 0, text(1, 101))},
		{good, vote(4, 1, 0, ""), vote(5, 1, 0, text(1, 1<<20))},
		{{}, good},
	} {
		for node := range 3 { // also of one that has promised
			checkPromise(t, p, node, l, api.ErrVote)
		}
		checkReady(t, p, false)
		checkTop(t, p, 0)
		for slot := range uint64(8) {
			checkMust(t, p, slot, "", false)
		}
	}
	checkPromise(t, p, 1, []api.Vote{good}, api.OK)
	checkReady(t, p, true)
	checkMust(t, p, 3, "good", true)
}

// A node that promised again says nothing more.
func TestPromiseAgain(t *testing.T) {
	p := made(t, three, ballot(5, 4), 1)
	checkPromise(t, p, 1, []api.Vote{vote(1, 2, 0, "first")}, api.OK)
	checkPromise(t, p, 1, []api.Vote{vote(1, 3, 0, "second"), vote(2, 1, 0, "more")}, api.OK)
	checkReady(t, p, false)
	checkMust(t, p, 1, "first", true)
	checkMust(t, p, 2, "", false)
	checkTop(t, p, 1)
}

// The greatest ballot binds, in whichever order nodes promise; of several votes of one ballot that of the least node.
func TestMust(t *testing.T) {
	q := api.Quorum{Kind: 1, Nodes: 4, One: 4, Two: 1}
	votes := [][]api.Vote{
		{vote(1, 1, 0, "a"), vote(2, 2, 3, "b"), vote(4, 7, 7, "c"), vote(6, 1, 1, "")},
		{vote(1, 1, 1, "d"), vote(2, 2, 3, "e"), vote(4, 8, 0, "f")},
		{vote(1, 1, 1, "g"), vote(2, 2, 2, "h"), vote(5, 1, 0, "i")},
		{vote(1, 1, 1, "j"), vote(2, 1, 11, "k"), vote(4, 8, 0, "l"), vote(6, 1, 0, "m")},
	}
	for _, order := range [][]int{{0, 1, 2, 3}, {3, 2, 1, 0}, {2, 0, 3, 1}, {1, 3, 0, 2}, {0, 3, 1, 2}, {2, 1, 3, 0}} {
		p := made(t, q, ballot(9, 0), 1)
		for _, node := range order {
			checkPromise(t, p, node, votes[node], api.OK)
		}
		for slot, want := range []string{"-", "d", "b", "-", "f", "i", "", "-"} {
			if want == "-" {
				checkMust(t, p, uint64(slot), "", false)
			} else {
				checkMust(t, p, uint64(slot), want, true)
			}
		}
		checkTop(t, p, 6)
	}
}

// Top is the greatest of all slots, whoever told it, and does not fall.
func TestTop(t *testing.T) {
	p := made(t, api.Quorum{Kind: 1, Nodes: 4, One: 1, Two: 4}, ballot(9, 0), 1)
	for node, x := range []struct{ slot, top uint64 }{{7, 7}, {3, 7}, {math.MaxUint64, math.MaxUint64}, {8, math.MaxUint64}} {
		checkPromise(t, p, node, []api.Vote{vote(x.slot, 1, 0, "")}, api.OK)
		checkTop(t, p, x.top)
	}
}

// What may not be proposed: the state is told ahead of the slot, that ahead of the size.
func TestProposeErrors(t *testing.T) {
	p := made(t, three, ballot(5, 0), 3)
	long := text(1, 101)
	checkPromise(t, p, 0, []api.Vote{vote(4, 1, 0, "must")}, api.OK)
	for _, slot := range []uint64{0, 2, 3, 4} {
		checkPropose(t, p, slot, "a", "", api.ErrState)
		checkPropose(t, p, slot, long, "", api.ErrState)
	}
	checkPromise(t, p, 0, nil, api.OK)
	checkPropose(t, p, 3, "a", "", api.ErrState)
	checkPromise(t, p, 2, nil, api.OK)
	for _, slot := range []uint64{0, 1, 2} {
		checkPropose(t, p, slot, "a", "", api.ErrArg)
		checkPropose(t, p, slot, long, "", api.ErrArg)
	}
	checkPropose(t, p, 3, long, "", api.ErrLong)
	checkPropose(t, p, math.MaxUint64, text(1, 1<<20), "", api.ErrLong)
	for _, slot := range []uint64{0, 2, 3, 4, math.MaxUint64} {
		checkAccepted(t, p, 0, slot, api.ErrNone) // of all that, nothing was proposed
	}
	checkPropose(t, p, 4, long, "must", api.OK)
	checkPropose(t, p, 3, text(2, 100), text(2, 100), api.OK)
	checkPropose(t, p, 3, long, text(2, 100), api.OK)
	checkPropose(t, p, math.MaxUint64, "", "", api.OK)
	checkPropose(t, p, math.MaxUint64, long, "", api.OK)
}

// What was proposed stays, also if a promise tells something else later.
func TestProposedStays(t *testing.T) {
	p := ready(t, 1)
	checkPropose(t, p, 1, "own", "own", api.OK)
	checkPropose(t, p, 2, "", "", api.OK)
	checkPromise(t, p, 2, []api.Vote{vote(1, 4, 11, "late"), vote(2, 4, 11, "late"), vote(3, 4, 11, "late")}, api.OK)
	checkMust(t, p, 1, "late", true)
	checkTop(t, p, 3)
	checkPropose(t, p, 1, "other", "own", api.OK)
	checkPropose(t, p, 2, "other", "", api.OK)
	checkPropose(t, p, 3, "other", "late", api.OK)
	for _, node := range []int{2, 0} {
		for slot := uint64(1); slot <= 3; slot++ {
			checkAccepted(t, p, node, slot, api.OK)
		}
	}
	checkChosen(t, p, 1, "own", true)
	checkChosen(t, p, 2, "", true)
	checkChosen(t, p, 3, "late", true)
	checkPrefix(t, p, 3)
}

// Must's value is empty, too: then it is that which is proposed.
func TestMustNothing(t *testing.T) {
	p := made(t, three, ballot(5, 0), 1)
	checkPromise(t, p, 0, []api.Vote{{Slot: 1, Ballot: ballot(1, 0)}}, api.OK)
	checkPromise(t, p, 1, nil, api.OK)
	checkMust(t, p, 1, "", true)
	checkPropose(t, p, 1, "own", "", api.OK)
}

// Accepted counts by nodes and by slots; it needs a proposal, and no promise of the node's.
func TestAccepted(t *testing.T) {
	p := ready(t, 3)
	checkPropose(t, p, 4, "a", "a", api.OK)
	checkPropose(t, p, 3, "b", "b", api.OK)
	for _, slot := range []uint64{0, 1, 2, 5, math.MaxUint64} {
		checkAccepted(t, p, 0, slot, api.ErrNone)
		checkAccepted(t, p, 3, slot, api.ErrArg)
	}
	checkAccepted(t, p, 2, 4, api.OK)
	checkAccepted(t, p, 2, 4, api.OK)
	checkAccepted(t, p, 0, 3, api.OK)
	checkChosen(t, p, 3, "", false)
	checkChosen(t, p, 4, "", false)
	checkAccepted(t, p, 0, 4, api.OK)
	checkChosen(t, p, 3, "", false)
	checkChosen(t, p, 4, "a", true)
	checkPrefix(t, p, 2)
	checkAccepted(t, p, 1, 4, api.OK)
	checkChosen(t, p, 4, "a", true)
	checkAccepted(t, p, 1, 3, api.OK)
	checkChosen(t, p, 3, "b", true)
	checkPrefix(t, p, 4)
}

// Prefix goes over what was chosen early, as far as there is no gap, up to the last slot that there is.
func TestPrefix(t *testing.T) {
	for _, from := range []uint64{1, 2, 50, math.MaxUint64 - 5} {
		p := ready(t, from)
		for _, x := range []struct{ slot, prefix uint64 }{{1, 0}, {3, 0}, {0, 2}, {5, 2}, {4, 2}, {2, 6}} {
			checkPropose(t, p, from+x.slot, "a", "a", api.OK)
			checkAccepted(t, p, 1, from+x.slot, api.OK)
			checkAccepted(t, p, 2, from+x.slot, api.OK)
			checkPrefix(t, p, from+x.prefix-1)
		}
	}
}

// Many slots, proposed falling: what Prefix tells at each costs no more than the slots.
func TestManySlots(t *testing.T) {
	const n = 50000
	p := ready(t, 1)
	for slot := uint64(n); slot > 0; slot-- {
		checkPropose(t, p, slot, "a", "a", api.OK)
		checkAccepted(t, p, 0, slot, api.OK)
	}
	for slot := uint64(1); slot <= n; slot++ {
		checkPrefix(t, p, slot-1)
		checkAccepted(t, p, 1, slot, api.OK)
		checkPrefix(t, p, slot)
	}
}

// What is handed in is not kept.
func TestKeepsNothingHandedIn(t *testing.T) {
	q := api.Quorum{Kind: 3, Nodes: 3, Sites: []int{0, 0, 1}}
	p := made(t, q, ballot(5, 0), 1)
	q.Sites[0], q.Sites[1], q.Sites[2] = 5, 6, 99
	votes := []api.Vote{vote(1, 1, 0, "must"), vote(2, 1, 0, "more")}
	checkPromise(t, p, 0, votes, api.OK)
	clear(votes[0].Value)
	clear(votes)
	checkPromise(t, p, 2, nil, api.OK)
	checkReady(t, p, true)
	checkMust(t, p, 1, "must", true)
	checkMust(t, p, 2, "more", true)
	own := []byte("own")
	if _, err := p.Propose(3, own); err != api.OK {
		t.Fatal(err)
	}
	clear(own)
	checkPropose(t, p, 3, "other", "own", api.OK)
	checkAccepted(t, p, 0, 3, api.OK)
	checkAccepted(t, p, 1, 3, api.OK)
	checkChosen(t, p, 3, "own", true)
}

// What comes out is new memory, and so is the room behind it.
func TestTellsNewMemory(t *testing.T) {
	p := made(t, three, ballot(5, 0), 1)
	checkPromise(t, p, 0, []api.Vote{vote(1, 1, 0, "must")}, api.OK)
	checkPromise(t, p, 1, nil, api.OK)
	checkPropose(t, p, 1, "", "must", api.OK)
	checkAccepted(t, p, 0, 1, api.OK)
	checkAccepted(t, p, 1, 1, api.OK)
	told := func() [][]byte {
		must, _ := p.Must(1)
		v, _ := p.Propose(1, nil)
		chosen, _ := p.Chosen(1)
		return [][]byte{must, v.Value, chosen}
	}
	all := append(told(), told()...)
	for i := range all {
		clear(all[i])
		all[i] = append(all[i], "behind"...)
		for _, b := range append(all[i+1:], told()...) {
			if string(b) != "must" {
				t.Fatalf("what was told is %q behind a change of another", b)
			}
		}
	}
}
