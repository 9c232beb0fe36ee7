package synod_test

import (
	"testing"

	"seawall/api"
	"seawall/synod"
)

// The chapter's example.
func TestExample(t *testing.T) {
	r := made(t, three)
	b := ballot(1, 0)
	checkStart(t, r, 0, "x", b, api.OK)
	checkRow(t, r, mail(1, 0, 0, b), mail(1, 0, 1, b), mail(1, 0, 2, b))
	checkTake(t, r, 0, 0, 0)
	checkRow(t, r, mail(2, 0, 0, b), mail(2, 1, 0, b), mail(2, 2, 0, b))
	checkTake(t, r, 0, 0)
	x := vote(1, 0, "x")
	checkRow(t, r, mail(2, 2, 0, b), mail(3, 0, 0, b, x), mail(3, 0, 1, b, x), mail(3, 0, 2, b, x))
	checkTake(t, r, 0, 0, 0, 0)
	checkRow(t, r, mail(4, 0, 0, b), mail(4, 1, 0, b), mail(4, 2, 0, b))
	checkTake(t, r, 0)
	checkLearned(t, r, 0, "", false)
	checkTake(t, r, 0)
	checkLearned(t, r, 0, "x", true)
	takeAll(t, r)
	checkLearned(t, r, 0, "x", true)
	checkLearned(t, r, 1, "", false)
	checkLearned(t, r, 2, "", false)
	for node := range 3 {
		checkVoted(t, r, node, b, x)
	}
}

// What is not to be a room's quorums.
func TestNew(t *testing.T) {
	for _, x := range []struct {
		q   api.Quorum
		err api.Errno
	}{
		{api.Quorum{}, api.ErrArg},
		{api.Quorum{Kind: 1, Nodes: 13, One: 13, Two: 13}, api.ErrArg},
		{api.Quorum{Kind: 1, Nodes: 3, One: 1, Two: 2}, api.ErrMeet},
		{api.Quorum{Kind: 1, Nodes: 4, One: 3, Two: 1}, api.ErrMeet},
		{api.Quorum{Kind: 1, Nodes: 4, One: 0, Two: 4}, api.ErrArg},
		{api.Quorum{Kind: 2, Nodes: 12, One: 3, Two: 3}, api.ErrArg},
		{api.Quorum{Kind: 3, Nodes: 2, Sites: []int{0, 12}}, api.ErrArg},
		{api.Quorum{Kind: 3, Nodes: 2, Sites: []int{0}}, api.ErrArg},
		{api.Quorum{Kind: 4, Nodes: 3, One: 3, Two: 3}, api.ErrArg},
	} {
		if r, err := synod.New(x.q); r != nil || err != x.err {
			t.Errorf("New(%v): %v, %d, not %d", x.q, r, err, x.err)
		}
	}
}

// A new room has the quorums' nodes, of which none has anything, and no letters.
func TestNewHasNothing(t *testing.T) {
	for _, q := range append(shapes, api.Quorum{Kind: 1, Nodes: 12, One: 6, Two: 7}) {
		r := made(t, q)
		checkRow(t, r)
		for node := range q.Nodes {
			checkVoted(t, r, node, none, api.Vote{})
			checkLearned(t, r, node, "", false)
			checkCrash(t, r, node, api.OK)
			checkStart(t, r, node, "", ballot(1, node), api.OK)
		}
		if r.Len() != q.Nodes*q.Nodes {
			t.Errorf("%d letters lie there", r.Len())
		}
	}
}

// All calls of nil.
func TestNil(t *testing.T) {
	var r *synod.Room
	for _, node := range []int{0, 1, -1, 12} {
		checkStart(t, r, node, "a", none, api.ErrNil)
		checkStart(t, r, node, text(1, 101), none, api.ErrNil)
		checkCrash(t, r, node, api.ErrNil)
		checkLearned(t, r, node, "", false)
		checkVoted(t, r, node, none, api.Vote{})
		if r.Take(node) || r.Drop(node) || r.Twice(node) {
			t.Error("a room that is not there has letters")
		}
	}
	checkRow(t, r)
}

// Just the nodes of the quorums are there.
func TestNodes(t *testing.T) {
	for nodes := 1; nodes <= api.MaxNodes; nodes++ {
		r := made(t, api.Quorum{Kind: 1, Nodes: nodes, One: nodes, Two: nodes})
		for _, node := range noNodes(nodes) {
			checkStart(t, r, node, "a", none, api.ErrArg)
			checkStart(t, r, node, text(1, 101), none, api.ErrArg)
			checkCrash(t, r, node, api.ErrArg)
			checkLearned(t, r, node, "", false)
			checkVoted(t, r, node, none, api.Vote{})
		}
		checkRow(t, r)
		for node := range nodes {
			checkStart(t, r, node, "a", ballot(uint64(node)+1, node), api.OK)
			takeAll(t, r)
			checkLearned(t, r, node, "a", true)
		}
	}
}

// A value has at most MaxCommand bytes, and may have none; behind an error all is as it was.
func TestValues(t *testing.T) {
	r := made(t, three)
	checkStart(t, r, 0, text(1, 101), none, api.ErrArg)
	checkStart(t, r, 0, text(1, 4096), none, api.ErrArg)
	checkRow(t, r)
	for i, n := range []int{100, 99, 1, 0} {
		r := made(t, three)
		checkStart(t, r, 2, text(i, n), ballot(1, 2), api.OK)
		checkStart(t, r, 2, text(i+1, 101), none, api.ErrArg)
		takeAll(t, r)
		checkLearned(t, r, 2, text(i, n), true)
		checkVoted(t, r, 1, ballot(1, 2), vote(1, 2, text(i, n)))
	}
	if b, err := r.Start(0, nil); b != ballot(1, 0) || err != api.OK {
		t.Errorf("Start(0, nil): %v, %d", b, err)
	}
	takeAll(t, r)
	checkLearned(t, r, 0, "", true)
	checkVoted(t, r, 0, ballot(1, 0), vote(1, 0, ""))
}

// What a node has seen: of its own starts, and of the letters 1 and 3 that came to it, whether it promised or not.
func TestSeen(t *testing.T) {
	r := made(t, three)
	for n := uint64(1); n <= 4; n++ {
		checkStart(t, r, 1, "a", ballot(n, 1), api.OK)
	}
	checkStart(t, r, 0, "b", ballot(1, 0), api.OK)
	checkTake(t, r, 3) // 2 of 1 to the node 0
	checkStart(t, r, 0, "b", ballot(3, 0), api.OK)
	checkTake(t, r, 0) // 1 of 1 comes late: nothing is seen by that
	checkStart(t, r, 0, "b", ballot(4, 0), api.OK)
	checkCrash(t, r, 0, api.OK)
	checkStart(t, r, 0, "b", ballot(5, 0), api.OK)
	checkStart(t, r, 1, "a", ballot(5, 1), api.OK)
	dropAll(t, r)
	checkStart(t, r, 2, "c", ballot(1, 2), api.OK)
}

// A letter 3 is seen, too.
func TestSeenOfLetter3(t *testing.T) {
	r := made(t, api.Quorum{Kind: 1, Nodes: 3, One: 1, Two: 3})
	checkStart(t, r, 0, "a", ballot(1, 0), api.OK)
	checkStart(t, r, 0, "a", ballot(2, 0), api.OK)
	dropAll(t, r)
	b := ballot(3, 0)
	checkStart(t, r, 0, "a", b, api.OK)
	checkTake(t, r, 0, 2)
	checkRow(t, r, mail(1, 0, 1, b), mail(1, 0, 2, b),
		mail(3, 0, 0, b, vote(3, 0, "a")), mail(3, 0, 1, b, vote(3, 0, "a")), mail(3, 0, 2, b, vote(3, 0, "a")))
	checkTake(t, r, 3)
	checkVoted(t, r, 1, b, vote(3, 0, "a"))
	dropAll(t, r)
	checkStart(t, r, 1, "b", ballot(4, 1), api.OK)
	checkStart(t, r, 2, "c", ballot(1, 2), api.OK)
}

// A ballot that was promised is promised again, one that is Less is not.
func TestPrepare(t *testing.T) {
	r := made(t, three)
	low, high := ballot(1, 0), ballot(1, 1)
	checkStart(t, r, 0, "a", low, api.OK)
	checkStart(t, r, 1, "b", high, api.OK)
	// From now on: of 0 to 0, 1, 2, and of 1 to 0, 1, 2.
	for range 2 {
		if !r.Twice(5) {
			t.Error("Twice")
		}
	}
	checkTake(t, r, 5, 5, 5) // 2 promises high, thrice
	checkVoted(t, r, 2, high, api.Vote{})
	checkTake(t, r, 2) // and low no more
	checkVoted(t, r, 2, high, api.Vote{})
	checkTake(t, r, 0) // 0 promises low, and then high
	checkVoted(t, r, 0, low, api.Vote{})
	checkTake(t, r, 1)
	checkVoted(t, r, 0, high, api.Vote{})
	checkRow(t, r, mail(1, 0, 1, low), mail(1, 1, 1, high),
		mail(2, 2, 1, high), mail(2, 2, 1, high), mail(2, 2, 1, high), mail(2, 0, 0, low), mail(2, 0, 1, high))
}

// A promise comes with the node's vote, which is proposed in the place of the own value; of several that of the greatest ballot.
func TestPromiseWithVotes(t *testing.T) {
	r := made(t, three)
	low, mid, high := ballot(1, 0), ballot(2, 1), ballot(3, 2)
	checkStart(t, r, 0, "a", low, api.OK)
	checkTake(t, r, 0, 0, 0, 0, 0)
	checkTake(t, r, 1) // the node 0 votes for a
	checkVoted(t, r, 0, low, vote(1, 0, "a"))
	dropAll(t, r)

	checkStart(t, r, 1, "b", mid, api.OK)
	checkTake(t, r, 1, 1) // 1 and 2 promise, which have no votes
	checkRow(t, r, mail(1, 1, 0, mid), mail(2, 1, 1, mid), mail(2, 2, 1, mid))
	checkTake(t, r, 1, 1)
	checkRow(t, r, mail(1, 1, 0, mid), mail(3, 1, 0, mid, vote(2, 1, "b")), mail(3, 1, 1, mid, vote(2, 1, "b")), mail(3, 1, 2, mid, vote(2, 1, "b")))
	checkTake(t, r, 2) // the node 1 votes for b
	dropAll(t, r)

	checkStart(t, r, 2, "c", high, api.OK)
	checkTake(t, r, 0, 0)
	checkRow(t, r, mail(1, 2, 2, high), mail(2, 0, 2, high, vote(1, 0, "a")), mail(2, 1, 2, high, vote(2, 1, "b")))
	checkTake(t, r, 1, 1)
	v := vote(3, 2, "b")
	checkRow(t, r, mail(1, 2, 2, high), mail(3, 2, 0, high, v), mail(3, 2, 1, high, v), mail(3, 2, 2, high, v))
	takeAll(t, r)
	checkLearned(t, r, 2, "b", true)
	for node := range 3 {
		checkVoted(t, r, node, high, v)
	}
}

// A vote of no bytes binds like any other.
func TestVoteOfNoBytes(t *testing.T) {
	r := made(t, three)
	checkStart(t, r, 0, "", ballot(1, 0), api.OK)
	takeAll(t, r)
	checkStart(t, r, 1, "b", ballot(2, 1), api.OK)
	takeAll(t, r)
	checkLearned(t, r, 1, "", true)
	checkVoted(t, r, 2, ballot(2, 1), vote(2, 1, ""))
}

// What came while a proposer was ready, or for another ballot, or for none, does nothing.
func TestLatePromises(t *testing.T) {
	r := made(t, three)
	one := ballot(1, 0)
	checkStart(t, r, 0, "a", one, api.OK)
	checkTake(t, r, 0, 0, 0)
	r.Twice(0)
	checkTake(t, r, 0) // a promise of 0, and the same again
	checkTake(t, r, 2)
	checkRow(t, r, mail(2, 1, 0, one), mail(2, 2, 0, one))
	r.Twice(1)
	checkTake(t, r, 0) // ready
	v := vote(1, 0, "a")
	checkRow(t, r, mail(2, 2, 0, one), mail(2, 2, 0, one), mail(3, 0, 0, one, v), mail(3, 0, 1, one, v), mail(3, 0, 2, one, v))
	checkTake(t, r, 0)
	checkRow(t, r, mail(2, 2, 0, one), mail(3, 0, 0, one, v), mail(3, 0, 1, one, v), mail(3, 0, 2, one, v))
	checkCrash(t, r, 0, api.OK)
	checkTake(t, r, 0)
	checkRow(t, r, mail(3, 0, 0, one, v), mail(3, 0, 1, one, v), mail(3, 0, 2, one, v))
}

// An elder proposer's promises do not serve the new one, and who accepted of it does not, either.
func TestElderProposer(t *testing.T) {
	r := made(t, three)
	one, two := ballot(1, 0), ballot(2, 0)
	checkStart(t, r, 0, "a", one, api.OK)
	checkTake(t, r, 0, 0, 0)
	checkStart(t, r, 0, "b", two, api.OK)
	checkTake(t, r, 0, 0, 0)
	checkRow(t, r, mail(1, 0, 0, two), mail(1, 0, 1, two), mail(1, 0, 2, two))
	checkTake(t, r, 0, 0, 0, 0, 0, 0)
	v := vote(2, 0, "b")
	checkRow(t, r, mail(3, 0, 0, two, v), mail(3, 0, 1, two, v), mail(3, 0, 2, two, v))
	checkTake(t, r, 0, 0, 0)
	checkRow(t, r, mail(4, 0, 0, two), mail(4, 1, 0, two), mail(4, 2, 0, two))
	checkStart(t, r, 0, "c", ballot(3, 0), api.OK)
	checkTake(t, r, 0, 0, 0)
	checkLearned(t, r, 0, "", false)
	takeAll(t, r)
	checkLearned(t, r, 0, "b", true)
}

// Who has promised a greater ballot votes no more; who accepted twice is one node; a crash leaves the promise.
func TestAccept(t *testing.T) {
	r := made(t, three)
	one, two := ballot(1, 0), ballot(2, 1)
	checkStart(t, r, 0, "a", one, api.OK)
	checkTake(t, r, 0, 0, 0, 0, 0, 0)
	v := vote(1, 0, "a")
	checkRow(t, r, mail(3, 0, 0, one, v), mail(3, 0, 1, one, v), mail(3, 0, 2, one, v))
	checkCrash(t, r, 1, api.OK)
	checkStart(t, r, 1, "b", two, api.OK)
	checkTake(t, r, 4) // 1 promises its own
	checkTake(t, r, 1) // and votes no more
	checkVoted(t, r, 1, two, api.Vote{})
	checkRow(t, r, mail(3, 0, 0, one, v), mail(3, 0, 2, one, v), mail(1, 1, 0, two), mail(1, 1, 2, two), mail(2, 1, 1, two))
	r.Twice(1)
	checkTake(t, r, 1) // 2 votes, and again
	checkTake(t, r, 4)
	checkVoted(t, r, 2, one, v)
	checkRow(t, r, mail(3, 0, 0, one, v), mail(1, 1, 0, two), mail(1, 1, 2, two), mail(2, 1, 1, two), mail(4, 2, 0, one), mail(4, 2, 0, one))
	checkTake(t, r, 4, 4) // which is one node
	checkLearned(t, r, 0, "", false)
	checkTake(t, r, 0)
	checkRow(t, r, mail(1, 1, 0, two), mail(1, 1, 2, two), mail(2, 1, 1, two), mail(4, 0, 0, one))
	checkTake(t, r, 3)
	checkLearned(t, r, 0, "a", true)
	takeAll(t, r)
	checkLearned(t, r, 1, "a", true)
	checkLearned(t, r, 0, "a", true)
}

// What a node learned stays through a new start, and goes with a crash; its promise and its vote stay.
func TestCrash(t *testing.T) {
	r := made(t, three)
	one := ballot(1, 0)
	checkStart(t, r, 0, "a", one, api.OK)
	takeAll(t, r)
	checkStart(t, r, 0, "b", ballot(2, 0), api.OK)
	checkLearned(t, r, 0, "a", true)
	dropAll(t, r)
	checkStart(t, r, 1, "c", ballot(2, 1), api.OK)
	takeAll(t, r)
	checkCrash(t, r, 0, api.OK)
	checkLearned(t, r, 0, "", false)
	checkLearned(t, r, 1, "a", true)
	for node := range 3 {
		checkVoted(t, r, node, ballot(2, 1), vote(2, 1, "a"))
	}
	checkStart(t, r, 0, "b", ballot(3, 0), api.OK)
	takeAll(t, r)
	checkLearned(t, r, 0, "a", true)
}

// Who accepted is told to nobody behind a crash.
func TestCrashAheadOfAccepted(t *testing.T) {
	r := made(t, three)
	checkStart(t, r, 0, "a", ballot(1, 0), api.OK)
	checkTake(t, r, 0, 0, 0, 0, 0, 0, 0, 0, 0)
	checkRow(t, r, mail(4, 0, 0, ballot(1, 0)), mail(4, 1, 0, ballot(1, 0)), mail(4, 2, 0, ballot(1, 0)))
	checkTake(t, r, 0)
	checkCrash(t, r, 0, api.OK)
	takeAll(t, r)
	checkLearned(t, r, 0, "", false)
	checkStart(t, r, 0, "b", ballot(2, 0), api.OK)
	takeAll(t, r)
	checkLearned(t, r, 0, "a", true)
}

// A letter is lost, or doubled, at each place, and nowhere else.
func TestDropAndTwice(t *testing.T) {
	b := ballot(1, 1)
	l := []api.Mail{mail(1, 1, 0, b), mail(1, 1, 1, b), mail(1, 1, 2, b)}
	for at := -1; at <= 3; at++ {
		r := made(t, three)
		if r.Drop(at) || r.Twice(at) || r.Take(at) {
			t.Errorf("a letter lies at %d of none", at)
		}
		checkStart(t, r, 1, "a", b, api.OK)
		there := at >= 0 && at < 3
		if r.Twice(at) != there {
			t.Errorf("Twice(%d): %t", at, !there)
		}
		want := append([]api.Mail{}, l...)
		if there {
			want = append(want, l[at])
		}
		checkRow(t, r, want...)
		dropped := r.Drop(at)
		if dropped != there {
			t.Errorf("Drop(%d): %t", at, dropped)
		}
		if there {
			want = append(want[:at], want[at+1:]...)
		}
		checkRow(t, r, want...)
	}
}

// Where MaxMail letters lie, those behind are lost.
func TestFull(t *testing.T) {
	r := made(t, three)
	var want []api.Mail
	for n := uint64(1); n <= 67; n++ {
		b := ballot(n, 2)
		checkStart(t, r, 2, "a", b, api.OK)
		for to := range 3 {
			if len(want) < 200 {
				want = append(want, mail(1, 2, to, b))
			}
		}
	}
	checkRow(t, r, want...)
	if r.Twice(0) || r.Twice(199) {
		t.Error("200 letters lie there, and one was doubled")
	}
	checkStart(t, r, 0, "b", ballot(1, 0), api.OK)
	checkRow(t, r, want...)
	// The answer to the one that came has room.
	checkTake(t, r, 199)
	want[199] = mail(2, 1, 2, ballot(67, 2))
	checkRow(t, r, want...)
	if !r.Drop(0) || !r.Twice(0) || r.Twice(0) {
		t.Error("there is room for one")
	}
	want = append(want[1:], want[1])
	checkRow(t, r, want...)
	if r.Len() != 200 {
		t.Errorf("%d letters lie there", r.Len())
	}
}

// Of the letters 3 that have no room the first ones go, too.
func TestFullWhenReady(t *testing.T) {
	for room := range 3 {
		r := made(t, three)
		b := ballot(1, 0)
		checkStart(t, r, 0, "a", b, api.OK)
		checkTake(t, r, 0, 0, 0, 0)
		for r.Len() < 200-room {
			r.Twice(1)
		}
		checkTake(t, r, 0)
		want := []api.Mail{}
		for range 199 - room {
			want = append(want, mail(2, 2, 0, b))
		}
		for to := range room + 1 {
			want = append(want, mail(3, 0, to, b, vote(1, 0, "a")))
		}
		checkRow(t, r, want...)
	}
}

// Who starts alone, with all letters taken in order, learns what it was started with; whoever starts then learns that, too.
func TestAllLettersCome(t *testing.T) {
	for _, q := range shapes {
		for first := range q.Nodes {
			r := made(t, q)
			for i := range q.Nodes {
				node := (first + i) % q.Nodes
				checkStart(t, r, node, text(i, 20), ballot(uint64(i)+1, node), api.OK)
				takeAll(t, r)
				checkLearned(t, r, node, text(0, 20), true)
			}
		}
	}
}

// Rooms know nothing of one another.
func TestTwoRooms(t *testing.T) {
	a, b := made(t, three), made(t, three)
	checkStart(t, a, 0, "a", ballot(1, 0), api.OK)
	checkRow(t, b)
	checkStart(t, b, 0, "b", ballot(1, 0), api.OK)
	takeAll(t, a)
	takeAll(t, b)
	checkLearned(t, a, 0, "a", true)
	checkLearned(t, b, 0, "b", true)
}

// What is handed in is not kept.
func TestKeepsNothingHandedIn(t *testing.T) {
	q := api.Quorum{Kind: 3, Nodes: 3, Sites: []int{0, 0, 1}}
	r := made(t, q)
	q.Sites[0], q.Sites[1], q.Sites[2] = 5, 6, 99
	checkStart(t, r, 1, "own", ballot(1, 1), api.OK) // what was handed in is noughts then
	takeAll(t, r)
	checkLearned(t, r, 1, "own", true)
}

// What comes out is new memory, and so is the room behind it.
func TestTellsNewMemory(t *testing.T) {
	r := made(t, three)
	checkStart(t, r, 0, "own", ballot(1, 0), api.OK)
	takeAll(t, r)
	checkStart(t, r, 0, "own", ballot(2, 0), api.OK)
	checkTake(t, r, 0, 0, 0, 0, 0) // a letter 2, and three letters 3
	r.Twice(3)
	told := func() [][]byte {
		learned, _ := r.Learned(0)
		_, v := r.Voted(1)
		l := [][]byte{learned, v.Value}
		for at := range r.Len() {
			m, _ := r.Look(at)
			l = append(l, m.Votes[0].Value)
			m.Votes[0] = api.Vote{}
			m.Votes = append(m.Votes, api.Vote{Slot: 9})
		}
		return l
	}
	all := append(told(), told()...)
	if len(all) != 14 {
		t.Fatalf("%d values were told", len(all))
	}
	for i := range all {
		clear(all[i])
		all[i] = append(all[i], "behind"...)
		for _, b := range append(all[i+1:], told()...) {
			if string(b) != "own" {
				t.Fatalf("what was told is %q behind a change of another", b)
			}
		}
	}
	takeAll(t, r)
	checkLearned(t, r, 0, "own", true)
}
