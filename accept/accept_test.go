package accept_test

import (
	"math"
	"slices"
	"testing"

	"seawall/accept"
	"seawall/api"
)

func TestRight(t *testing.T) {
	for _, n := range []uint64{0, 1, 2, 127, 128, 1 << 32, 1 << 63, math.MaxUint64} {
		for _, node := range []int{math.MinInt, -1 << 32, -12, -1, 0, 1, 10, 11, 12, 13, 1 << 32, math.MaxInt} {
			want := n > 0 && node >= 0 && node <= 11
			if accept.Right(ballot(n, node)) != want {
				t.Errorf("Right(%v) is %t", ballot(n, node), !want)
			}
		}
	}
}

func TestLess(t *testing.T) {
	// Rising: each is Less than all behind it, and no other is.
	l := []api.Ballot{
		ballot(0, math.MinInt), ballot(0, -1), ballot(0, 0), ballot(0, 1), ballot(0, 11),
		ballot(1, math.MinInt), ballot(1, -1), ballot(1, 0), ballot(1, 1), ballot(1, 2), ballot(1, 11), ballot(1, 12), ballot(1, math.MaxInt),
		ballot(2, 0), ballot(2, 11), ballot(127, 3), ballot(128, 2), ballot(1<<32, 1), ballot(1<<63-1, 5), ballot(1<<63, 4),
		ballot(math.MaxUint64, -1), ballot(math.MaxUint64, 0), ballot(math.MaxUint64, 11),
	}
	for i, a := range l {
		for j, b := range l {
			if accept.Less(a, b) != (i < j) {
				t.Errorf("Less(%v, %v) is %t", a, b, i >= j)
			}
		}
	}
}

// The chapter's example.
func TestExample(t *testing.T) {
	d := fresh(t, 60)
	a := open(t, d)
	checkPrepare(t, a, ballot(1, 2), 1, nil, ballot(1, 2), api.OK)
	checkAccept(t, a, vote(3, 1, 2, "x"), ballot(1, 2), api.OK)
	checkPrepare(t, a, ballot(1, 1), 1, nil, ballot(1, 2), api.ErrBallot)
	d.Crash(nil)
	a = open(t, d)
	checkTold(t, a, ballot(1, 2), vote(3, 1, 2, "x"))
	checkPrepare(t, a, ballot(2, 0), 1, []api.Vote{vote(3, 1, 2, "x")}, ballot(2, 0), api.OK)
}

// A new acceptor has promised nothing, and has no vote.
func TestNew(t *testing.T) {
	d := fresh(t, 6)
	a := open(t, d)
	checkTold(t, a, none)
	checkTrim(t, a, math.MaxUint64, 0, api.OK)
	checkLog(t, d)
	if d.Waiting() != 0 {
		t.Errorf("%d writes wait", d.Waiting())
	}
}

// A ballot below the promised one is refused, that one is promised again, one above it takes its place.
func TestPrepare(t *testing.T) {
	d := fresh(t, 60)
	a := open(t, d)
	for _, x := range []struct {
		b, promised api.Ballot
		err         api.Errno
	}{
		{ballot(5, 3), ballot(5, 3), api.OK},
		{ballot(5, 2), ballot(5, 3), api.ErrBallot},
		{ballot(4, 11), ballot(5, 3), api.ErrBallot},
		{ballot(1, 0), ballot(5, 3), api.ErrBallot},
		{ballot(5, 3), ballot(5, 3), api.OK},
		{ballot(5, 4), ballot(5, 4), api.OK},
		{ballot(6, 0), ballot(6, 0), api.OK},
		{ballot(5, 11), ballot(6, 0), api.ErrBallot},
		{ballot(math.MaxUint64, 10), ballot(math.MaxUint64, 10), api.OK},
		{ballot(1<<63, 11), ballot(math.MaxUint64, 10), api.ErrBallot},
		{ballot(math.MaxUint64, 11), ballot(math.MaxUint64, 11), api.OK},
		{ballot(math.MaxUint64, 10), ballot(math.MaxUint64, 11), api.ErrBallot},
	} {
		checkPrepare(t, a, x.b, 1, nil, x.promised, x.err)
		checkTold(t, a, x.promised)
		checkTold(t, open(t, keptNone(d)), x.promised)
	}
}

// What is told of votes: those of the slots from from on, rising, whichever way they came.
func TestVotesRise(t *testing.T) {
	d := fresh(t, 300)
	a := open(t, d)
	slots := []uint64{1, 2, 3, 127, 128, 255, 256, 257, 1 << 16, 1<<32 - 1, 1 << 32, 1<<32 + 1, 1 << 40, 1<<63 - 1, 1 << 63, math.MaxUint64 - 1, math.MaxUint64}
	var want []api.Vote
	for i, slot := range slots {
		want = append(want, vote(slot, 7, 3, text(i, i)))
	}
	for i := range want {
		checkAccept(t, a, want[i*5%len(want)], ballot(7, 3), api.OK)
	}
	checkTold(t, a, ballot(7, 3), want...)
	checkTold(t, open(t, keptNone(d)), ballot(7, 3), want...)
	for _, slot := range slots {
		checkPrepare(t, a, ballot(7, 3), slot, from(want, slot), ballot(7, 3), api.OK)
		checkPrepare(t, a, ballot(7, 3), slot+1, from(want, slot+1), ballot(7, 3), api.OK)
		checkPrepare(t, a, ballot(7, 2), slot, nil, ballot(7, 3), api.ErrBallot)
	}
	checkPrepare(t, a, ballot(7, 4), 0, want, ballot(7, 4), api.OK)
}

// Votes at a ballot below the promised one are refused; one at it, or above it, is there, and its ballot is promised.
func TestAccept(t *testing.T) {
	d := fresh(t, 60)
	a := open(t, d)
	checkAccept(t, a, vote(2, 1, 0, "a"), ballot(1, 0), api.OK)
	checkTold(t, a, ballot(1, 0), vote(2, 1, 0, "a"))
	checkPrepare(t, a, ballot(3, 3), 1, []api.Vote{vote(2, 1, 0, "a")}, ballot(3, 3), api.OK)
	for _, low := range []api.Ballot{ballot(3, 2), ballot(2, 11), ballot(1, 0)} {
		for _, slot := range []uint64{1, 2, 3} {
			checkAccept(t, a, api.Vote{Slot: slot, Ballot: low, Value: []byte("no")}, ballot(3, 3), api.ErrBallot)
		}
	}
	checkTold(t, a, ballot(3, 3), vote(2, 1, 0, "a"))
	checkAccept(t, a, vote(2, 3, 3, "b"), ballot(3, 3), api.OK)
	checkTold(t, a, ballot(3, 3), vote(2, 3, 3, "b"))
	checkAccept(t, a, vote(2, 3, 3, "c"), ballot(3, 3), api.OK)
	checkTold(t, a, ballot(3, 3), vote(2, 3, 3, "c"))
	checkAccept(t, a, vote(1, 3, 4, ""), ballot(3, 4), api.OK)
	checkAccept(t, a, vote(3, 4, 0, text(1, 100)), ballot(4, 0), api.OK)
	checkAccept(t, a, vote(1, 3, 4, "again"), ballot(4, 0), api.ErrBallot)
	want := []api.Vote{vote(1, 3, 4, ""), vote(2, 3, 3, "c"), vote(3, 4, 0, text(1, 100))}
	checkTold(t, a, ballot(4, 0), want...)
	checkTold(t, open(t, keptNone(d)), ballot(4, 0), want...)
}

// Values are any bytes, up to the greatest size, also of the greatest ballot and slot.
func TestValues(t *testing.T) {
	d := fresh(t, 300)
	a := open(t, d)
	for _, n := range []int{0, 1, 2, 31, 99, 100} {
		v := vote(math.MaxUint64, math.MaxUint64, 11, text(n, n))
		checkAccept(t, a, v, v.Ballot, api.OK)
		checkTold(t, a, v.Ballot, v)
		checkTold(t, open(t, keptNone(d)), v.Ballot, v)
	}
	for c := range 256 {
		v := vote(1, math.MaxUint64, 11, string([]byte{byte(c), byte(c)}))
		checkAccept(t, a, v, v.Ballot, api.OK)
		checkTold(t, open(t, keptNone(d)), v.Ballot, v, vote(math.MaxUint64, math.MaxUint64, 11, text(100, 100)))
	}
}

// What may not be is told ahead of a ballot that is too low, and does nothing.
func TestArg(t *testing.T) {
	d := fresh(t, 60)
	a := open(t, d)
	checkPrepare(t, a, ballot(9, 5), 1, nil, ballot(9, 5), api.OK)
	v := vote(4, 9, 6, "x")
	checkAccept(t, a, v, ballot(9, 6), api.OK)
	for _, b := range []api.Ballot{none, ballot(0, 5), ballot(0, 11), ballot(9, -1), ballot(1, -1), ballot(10, 12), ballot(1, 12), ballot(10, math.MinInt), ballot(10, math.MaxInt), ballot(10, 1<<32)} {
		checkPrepare(t, a, b, 1, nil, none, api.ErrArg)
		checkAccept(t, a, api.Vote{Slot: 1, Ballot: b, Value: []byte("y")}, none, api.ErrArg)
	}
	for _, v := range []api.Vote{{}, vote(0, 10, 0, "y"), vote(0, 1, 0, ""), vote(1, 10, 0, text(1, 101)), vote(1, 1, 0, text(1, 101)), vote(1, 10, 0, text(1, 1<<20))} {
		checkAccept(t, a, v, none, api.ErrArg)
	}
	checkTold(t, a, ballot(9, 6), v)
	checkTold(t, open(t, keptAll(d)), ballot(9, 6), v)
}

// The batches that come to the log: of Prepare the promise alone, if there is a new one; of Accept both; all of it safe. Of Trim those that go, which nothing makes safe.
func TestBatches(t *testing.T) {
	d := fresh(t, 100)
	a := open(t, d)
	checkPrepare(t, a, ballot(1, 2), 1, nil, ballot(1, 2), api.OK)
	one := []api.Change{{Key: "p", Value: "\x01\x02"}}
	checkLog(t, d, one)
	checkPrepare(t, a, ballot(1, 2), 1, nil, ballot(1, 2), api.OK)
	checkPrepare(t, a, ballot(1, 1), 1, nil, ballot(1, 2), api.ErrBallot)
	checkLog(t, d, one)
	checkAccept(t, a, vote(3, 1, 2, "x"), ballot(1, 2), api.OK)
	two := []api.Change{{Key: "p", Value: "\x01\x02"}, {Key: "v\x00\x00\x00\x00\x00\x00\x00\x03", Value: "\x01\x02x"}}
	checkLog(t, d, one, two)
	checkAccept(t, a, vote(2, 1, 1, "x"), ballot(1, 2), api.ErrBallot)
	checkAccept(t, a, vote(0x0102030405060708, 300, 11, ""), ballot(300, 11), api.OK)
	three := []api.Change{{Key: "p", Value: "\xac\x02\x0b"}, {Key: "v\x01\x02\x03\x04\x05\x06\x07\x08", Value: "\xac\x02\x0b"}}
	checkLog(t, keptNone(d), one, two, three)
	if d.Waiting() != 0 {
		t.Errorf("%d writes wait", d.Waiting())
	}

	checkTrim(t, a, 2, 0, api.OK)
	checkLog(t, d, one, two, three)
	checkTrim(t, a, math.MaxUint64, 2, api.OK)
	four := []api.Change{{Key: two[1].Key, Gone: true}, {Key: three[1].Key, Gone: true}}
	checkLog(t, d, one, two, three, four)
	checkLog(t, keptNone(d), one, two, three)
	if d.Waiting() == 0 {
		t.Error("Trim's batch does not wait")
	}
	checkPrepare(t, a, ballot(300, 11), 1, nil, ballot(300, 11), api.OK)
	checkLog(t, keptNone(d), one, two, three)
	checkPrepare(t, a, ballot(301, 0), 1, nil, ballot(301, 0), api.OK)
	checkLog(t, keptNone(d), one, two, three, four, []api.Change{{Key: "p", Value: "\xad\x02\x00"}})
}

// The lowest votes go, as many as a batch has at most, and none above a slot.
func TestTrim(t *testing.T) {
	d := fresh(t, 600)
	a := open(t, d)
	var want []api.Vote
	for i := range uint64(100) {
		v := vote(i*3+3, 2, 1, text(int(i), 3))
		checkAccept(t, a, v, ballot(2, 1), api.OK)
		want = append(want, v)
	}
	for _, x := range []struct {
		upto uint64
		n    int
	}{{0, 0}, {2, 0}, {3, 1}, {3, 0}, {8, 1}, {9, 1}, {9 + 31*3, 31}, {9 + 31*3, 0}, {9 + 63*3, 32}, {math.MaxUint64, 32}, {299, 1}, {299, 0}, {300, 1}, {math.MaxUint64, 0}} {
		checkTrim(t, a, x.upto, x.n, api.OK)
		want = want[x.n:]
		checkTold(t, a, ballot(2, 1), want...)
		checkTold(t, open(t, keptAll(d)), ballot(2, 1), want...)
	}
}

// Of just as many votes as a batch has all go, of one more one stays.
func TestTrimBatch(t *testing.T) {
	for _, n := range []int{31, 32, 33, 64, 65} {
		d := fresh(t, 600)
		a := open(t, d)
		for i := range uint64(n) {
			checkAccept(t, a, vote(math.MaxUint64-i, 1, 0, ""), ballot(1, 0), api.OK)
		}
		checkTrim(t, a, math.MaxUint64, min(n, 32), api.OK)
		if left := len(a.Votes(0)); left != n-min(n, 32) {
			t.Errorf("of %d %d are left", n, left)
		}
	}
}

// A slot that was trimmed takes another vote, also one at a ballot promised since.
func TestVoteAgain(t *testing.T) {
	d := fresh(t, 60)
	a := open(t, d)
	checkAccept(t, a, vote(1, 1, 0, "a"), ballot(1, 0), api.OK)
	checkAccept(t, a, vote(2, 1, 0, "b"), ballot(1, 0), api.OK)
	checkTrim(t, a, 1, 1, api.OK)
	checkAccept(t, a, vote(1, 1, 0, "c"), ballot(1, 0), api.OK)
	checkTold(t, open(t, keptNone(d)), ballot(1, 0), vote(1, 1, 0, "c"), vote(2, 1, 0, "b"))
	checkTrim(t, a, 9, 2, api.OK)
	checkAccept(t, a, vote(2, 2, 0, "d"), ballot(2, 0), api.OK)
	checkTold(t, a, ballot(2, 0), vote(2, 2, 0, "d"))
	checkTold(t, open(t, keptNone(d)), ballot(2, 0), vote(2, 2, 0, "d"))
}

// Votes that were trimmed may be there again behind a crash: Trim makes nothing safe.
func TestTrimIsNotSafe(t *testing.T) {
	d := fresh(t, 60)
	a := open(t, d)
	checkAccept(t, a, vote(1, 1, 0, "a"), ballot(1, 0), api.OK)
	checkTrim(t, a, 1, 1, api.OK)
	checkTold(t, open(t, keptNone(d)), ballot(1, 0), vote(1, 1, 0, "a"))
	checkTold(t, open(t, keptAll(d)), ballot(1, 0))
}

// A disk without room: nothing is promised and nothing goes, till a Trim makes room.
func TestFull(t *testing.T) {
	d := fresh(t, 20) // areas of 9 sectors, 288 bytes
	a := open(t, d)
	checkPrepare(t, a, ballot(1, 0), 1, nil, ballot(1, 0), api.OK)
	var want []api.Vote
	for i := uint64(1); ; i++ {
		v := vote(i, 1, 0, text(int(i), 20))
		p, err := a.Accept(v)
		if err == api.ErrFull && p == none {
			break
		}
		if err != api.OK || p != ballot(1, 0) || i > 20 {
			t.Fatalf("the vote %d: %v, %d", i, p, err)
		}
		want = append(want, v)
	}
	if len(want) < 2 {
		t.Fatalf("there was room for %d votes", len(want))
	}
	great := text(1, 100)
	for range 2 {
		checkAccept(t, a, vote(99, 5, 0, great), none, api.ErrFull)
		checkAccept(t, a, vote(1, 5, 0, great), none, api.ErrFull)
		checkAccept(t, a, vote(1, 1, 0, great), none, api.ErrFull)
		checkTold(t, a, ballot(1, 0), want...)
		checkTold(t, open(t, keptAll(d)), ballot(1, 0), want...)
		checkAccept(t, a, vote(1, 0, 0, great), none, api.ErrArg)
	}
	checkTrim(t, a, 2, 2, api.OK)
	checkTold(t, a, ballot(1, 0), want[2:]...)
	checkAccept(t, a, vote(9, 1, 1, "x"), ballot(1, 1), api.OK)
	want = append(want[2:], vote(9, 1, 1, "x"))
	checkTold(t, open(t, keptNone(d)), ballot(1, 1), want...)
}

// The least disk at all: it is so full of one vote that not even a greater promise, or a Trim, has room; with the two greater values a checkpoint has none either.
func TestNoRoomAtAll(t *testing.T) {
	for _, n := range []int{17, 22, 23, 33} {
		d := fresh(t, 6) // areas of 2 sectors, 64 bytes
		a := open(t, d)
		v := vote(7, 1, 3, text(1, n))
		checkAccept(t, a, v, ballot(1, 3), api.OK)
		checkTrim(t, a, 7, 0, api.ErrFull)
		checkPrepare(t, a, ballot(1, 4), 1, nil, none, api.ErrFull)
		checkPrepare(t, a, ballot(1, 2), 1, nil, ballot(1, 3), api.ErrBallot)
		checkPrepare(t, a, ballot(1, 3), 1, []api.Vote{v}, ballot(1, 3), api.OK)
		checkAccept(t, a, vote(7, 1, 4, ""), none, api.ErrFull)
		checkTrim(t, a, 6, 0, api.OK)
		checkTold(t, a, ballot(1, 3), v)
		checkTold(t, open(t, keptAll(d)), ballot(1, 3), v)
		checkTold(t, open(t, keptNone(d)), ballot(1, 3), v)
	}
	a := open(t, fresh(t, 6))
	checkAccept(t, a, vote(7, 1, 3, text(1, 34)), none, api.ErrFull)
	checkTold(t, a, none)
}

// A call without an act answers though the power is about to go; the first that meets it tells, and all is over, also when the power is there again.
func TestDead(t *testing.T) {
	votes := []api.Vote{vote(1, 1, 0, "a"), vote(2, 1, 0, "b")}
	for what, call := range map[string]func(t *testing.T, a *accept.Acceptor){
		"Prepare": func(t *testing.T, a *accept.Acceptor) { checkPrepare(t, a, ballot(2, 0), 1, nil, none, api.ErrDead) },
		"Accept":  func(t *testing.T, a *accept.Acceptor) { checkAccept(t, a, vote(1, 1, 0, "c"), none, api.ErrDead) },
		"Trim":    func(t *testing.T, a *accept.Acceptor) { checkTrim(t, a, 1, 0, api.ErrDead) },
	} {
		for acts := range 2 {
			if what == "Trim" && acts == 1 {
				continue // it has one act, which goes well
			}
			d := fresh(t, 60)
			a := open(t, d)
			for _, v := range votes {
				checkAccept(t, a, v, ballot(1, 0), api.OK)
			}
			d.Arm(acts)
			checkPrepare(t, a, ballot(1, 0), 2, votes[1:], ballot(1, 0), api.OK)
			checkAccept(t, a, vote(3, 0, 1, ""), none, api.ErrArg)
			checkTrim(t, a, 0, 0, api.OK)
			checkTold(t, a, ballot(1, 0), votes...)
			call(t, a)
			checkOver(t, a, api.ErrDead)
			d.Crash(nil)
			checkOver(t, a, api.ErrDead)
			checkTold(t, open(t, d), ballot(1, 0), votes...)
			if t.Failed() {
				t.Fatalf("%s, %d acts", what, acts)
			}
		}
	}
}

// The power went at the disk's own act: what needs no disk is answered as before.
func TestPowerGoesElsewhere(t *testing.T) {
	d := fresh(t, 60)
	a := open(t, d)
	v := vote(1, 2, 0, "a")
	checkAccept(t, a, v, ballot(2, 0), api.OK)
	d.Arm(0)
	d.Sync()
	checkPrepare(t, a, ballot(2, 0), 1, []api.Vote{v}, ballot(2, 0), api.OK)
	checkPrepare(t, a, ballot(1, 0), 1, nil, ballot(2, 0), api.ErrBallot)
	checkAccept(t, a, vote(1, 1, 0, "b"), ballot(2, 0), api.ErrBallot)
	checkTrim(t, a, 0, 0, api.OK)
	checkTold(t, a, ballot(2, 0), v)
	checkTrim(t, a, 1, 0, api.ErrDead)
	checkOver(t, a, api.ErrDead)
}

func TestNil(t *testing.T) {
	checkOver(t, nil, api.ErrNil)
}

// What is handed in may be written over, and isn't changed; what comes out is its owner's, with the room behind it.
func TestShareNothing(t *testing.T) {
	d := fresh(t, 100)
	a := open(t, d)
	value := []byte("-abc-")
	checkAccept(t, a, api.Vote{Slot: 1, Ballot: ballot(1, 0), Value: value[1:4]}, ballot(1, 0), api.OK)
	if string(value) != "-abc-" {
		t.Errorf("Accept made %q", value)
	}
	copy(value, "zzzzz")
	checkAccept(t, a, vote(2, 1, 0, "de"), ballot(1, 0), api.OK)
	want := []api.Vote{vote(1, 1, 0, "abc"), vote(2, 1, 0, "de")}
	checkTold(t, a, ballot(1, 0), want...)

	one, _, _ := a.Prepare(ballot(2, 0), 1)
	two := a.Votes(1)
	three, _, _ := a.Prepare(ballot(2, 0), 1)
	for _, l := range [][]api.Vote{one, two} {
		for i := range l {
			spoilt := l[i].Value[:cap(l[i].Value)]
			for k := range spoilt {
				spoilt[k] = '!'
			}
			if i == 0 && !slices.Equal(l[1].Value[:2], []byte("de")) {
				t.Errorf("two values of one answer share: %q", l[1].Value)
			}
		}
		l = l[:cap(l)]
		clear(l)
	}
	if !sameVotes(three, want) {
		t.Errorf("the answers share: %v", three)
	}
	checkTold(t, a, ballot(2, 0), want...)
	for i := range three {
		three[i].Value = append(three[i].Value, "more"...)
	}
	checkTold(t, a, ballot(2, 0), want...)

	late := a.Votes(1)
	checkAccept(t, a, vote(1, 3, 0, "new"), ballot(3, 0), api.OK)
	checkTrim(t, a, 2, 2, api.OK)
	if !sameVotes(late, want) {
		t.Errorf("what was told is now %v", late)
	}
}

// Two acceptors on two disks know nothing of one another; nor does one on a clone.
func TestApart(t *testing.T) {
	d := fresh(t, 60)
	a := open(t, d)
	checkAccept(t, a, vote(1, 1, 0, "a"), ballot(1, 0), api.OK)
	c := d.Clone()
	o := open(t, c)
	checkAccept(t, o, vote(1, 2, 0, "b"), ballot(2, 0), api.OK)
	checkAccept(t, a, vote(2, 1, 1, "c"), ballot(1, 1), api.OK)
	checkTold(t, a, ballot(1, 1), vote(1, 1, 0, "a"), vote(2, 1, 1, "c"))
	checkTold(t, o, ballot(2, 0), vote(1, 2, 0, "b"))
	checkTold(t, open(t, keptNone(d)), ballot(1, 1), vote(1, 1, 0, "a"), vote(2, 1, 1, "c"))
	checkTold(t, open(t, keptNone(c)), ballot(2, 0), vote(1, 2, 0, "b"))
}

// The greatest disk has many votes, in the order of their slots, however they come and go.
func TestManyVotes(t *testing.T) {
	d := fresh(t, api.MaxSectors)
	a := open(t, d)
	const n = 1000
	want := make([]api.Vote, n)
	for i := range n {
		at := i * 377 % n
		want[at] = vote(uint64(at+1), 1, 0, text(at, at%5))
		checkAccept(t, a, want[at], ballot(1, 0), api.OK)
	}
	if !sameVotes(a.Votes(0), want) {
		t.Error("not all votes are told, rising")
	}
	for upto := 0; upto < n; {
		checkTrim(t, a, n, min(32, n-upto), api.OK)
		upto += min(32, n-upto)
		if l := a.Votes(0); !sameVotes(l, want[upto:]) {
			t.Fatalf("%d votes are left of %d", len(l), n-upto)
		}
	}
	checkTold(t, open(t, keptAll(d)), ballot(1, 0))
}
