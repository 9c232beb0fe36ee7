package accept_test

import (
	"math/rand"
	"slices"
	"testing"

	"seawall/accept"
	"seawall/api"
	"seawall/disk"
)

// state is what an acceptor tells.
type state struct {
	promised api.Ballot
	votes    []api.Vote
}

func told(a *accept.Acceptor) state {
	return state{promised: a.Promised(), votes: a.Votes(0)}
}

func (s state) is(o state) bool {
	return s.promised == o.promised && sameVotes(s.votes, o.votes)
}

// with: as it is behind a vote.
func (s state) with(v api.Vote) state {
	l := slices.DeleteFunc(copied(s.votes), func(o api.Vote) bool { return o.Slot == v.Slot })
	at := 0
	for at < len(l) && l[at].Slot < v.Slot {
		at++
	}
	return state{promised: v.Ballot, votes: slices.Insert(l, at, v)}
}

// without: as it is behind a Trim.
func (s state) without(upto uint64) state {
	l := copied(s.votes)
	for n := 0; n < 32 && len(l) > 0 && l[0].Slot <= upto; n++ {
		l = l[1:]
	}
	return state{promised: s.promised, votes: l}
}

// promise is what must be there behind a crash: one of some states, the last of which comes of all that was asked for.
type promise struct {
	may  []state
	over bool // the power went in some call
}

func begin(a *accept.Acceptor) *promise {
	return &promise{may: []state{told(a)}}
}

func (p *promise) last() state {
	return p.may[len(p.may)-1]
}

// next: a call that has an act made this of what was; what was answered with OK is safe, unless it was a Trim.
func (p *promise) next(t *testing.T, a *accept.Acceptor, s state, err api.Errno, safe bool) {
	t.Helper()
	switch {
	case p.over:
		if err != api.ErrDead {
			t.Fatalf("%d, when all is over", err)
		}
	case err == api.OK || err == api.ErrDead:
		p.may = append(p.may, s)
		p.over = err == api.ErrDead
		if safe && !p.over {
			p.may = p.may[len(p.may)-1:]
		}
	case err != api.ErrFull:
		t.Fatalf("answered is %d", err)
	}
	want := p.last()
	if p.over {
		want = state{}
	}
	if !told(a).is(want) {
		t.Fatalf("told is %v, not %v", told(a), want)
	}
}

func (p *promise) prepare(t *testing.T, a *accept.Acceptor, b api.Ballot) {
	t.Helper()
	was := p.last()
	l, promised, err := a.Prepare(b, 0)
	if !p.over && !accept.Less(was.promised, b) {
		low := accept.Less(b, was.promised)
		if low != (err == api.ErrBallot) || low == (err == api.OK) || promised != was.promised || !low && !sameVotes(l, was.votes) {
			t.Fatalf("Prepare(%v): %v, %v, %d, when %v was", b, l, promised, err, was)
		}
		return
	}
	if (err == api.OK) != (promised == b) || err == api.OK && !sameVotes(l, was.votes) || err != api.OK && (promised != none || len(l) > 0) {
		t.Fatalf("Prepare(%v): %v, %v, %d, when %v was", b, l, promised, err, was)
	}
	p.next(t, a, state{promised: b, votes: was.votes}, err, true)
}

func (p *promise) accept(t *testing.T, a *accept.Acceptor, v api.Vote) {
	t.Helper()
	was := p.last()
	promised, err := a.Accept(v)
	if !p.over && accept.Less(v.Ballot, was.promised) {
		if err != api.ErrBallot || promised != was.promised {
			t.Fatalf("Accept(%v): %v, %d, when %v was", v, promised, err, was)
		}
		return
	}
	if (err == api.OK) != (promised == v.Ballot) || err != api.OK && promised != none {
		t.Fatalf("Accept(%v): %v, %d, when %v was", v, promised, err, was)
	}
	p.next(t, a, was.with(v), err, true)
}

func (p *promise) trim(t *testing.T, a *accept.Acceptor, upto uint64) {
	t.Helper()
	was := p.last()
	next := was.without(upto)
	n, err := a.Trim(upto)
	if !p.over && len(next.votes) == len(was.votes) {
		if n != 0 || err != api.OK {
			t.Fatalf("Trim(%d): %d, %d, when %v was", upto, n, err, was)
		}
		return
	}
	if err == api.OK && n != len(was.votes)-len(next.votes) || err != api.OK && n != 0 {
		t.Fatalf("Trim(%d): %d, %d, when %v was", upto, n, err, was)
	}
	p.next(t, a, next, err, false)
}

// checkKept: the promise is kept behind a crash of the disk's clone, and opening again changes nothing. Which of the states is there?
func (p *promise) checkKept(t *testing.T, d *disk.Disk, keep []int) int {
	t.Helper()
	c := d.Clone()
	c.Crash(keep)
	got := told(open(t, c))
	c.Crash(nil)
	if again := told(open(t, c)); !again.is(got) {
		t.Fatalf("opened again: %v, not %v", again, got)
	}
	n := slices.IndexFunc(p.may, got.is)
	if n < 0 {
		t.Fatalf("behind a crash that keeps %d there is %v, none of %v", keep, got, p.may)
	}
	return n
}

// keeps: of n writes that wait, one is torn at each place, those ahead of it are there, and those behind it are lost, or there; so also all, and none.
func keeps(n int) [][]int {
	l := [][]int{nil, slices.Repeat([]int{api.Sector}, n)}
	for i := range n {
		for torn := range api.Sector + 1 {
			front := append(slices.Repeat([]int{api.Sector}, i), torn)
			l = append(l, front, append(slices.Clone(front), slices.Repeat([]int{api.Sector}, n-i-1)...))
		}
	}
	return l
}

// steps does what an acceptor is for, till the power goes; its log is full now and then.
func steps(t *testing.T, a *accept.Acceptor) *promise {
	t.Helper()
	p := begin(a)
	p.prepare(t, a, ballot(1, 2))
	p.accept(t, a, vote(3, 1, 2, "x"))
	p.prepare(t, a, ballot(1, 1))
	p.accept(t, a, vote(1, 1, 2, text(1, 30)))
	p.accept(t, a, vote(1, 1, 1, "low"))
	p.prepare(t, a, ballot(1, 2))
	p.accept(t, a, vote(2, 2, 0, text(2, 60)))
	p.prepare(t, a, ballot(300, 11))
	p.trim(t, a, 0)
	p.trim(t, a, 1)
	p.accept(t, a, vote(2, 300, 11, "y"))
	p.trim(t, a, 2)
	p.trim(t, a, 9)
	for i := range uint64(6) {
		p.accept(t, a, vote(4+i*5%6, 301+i/2, int(i%2), text(int(i), 40)))
	}
	p.trim(t, a, 5)
	p.prepare(t, a, ballot(1<<63, 0))
	p.accept(t, a, vote(1<<63, 1<<63, 0, text(5, 100)))
	p.trim(t, a, 1<<62)
	p.accept(t, a, vote(5, 1<<63, 1, ""))
	p.trim(t, a, 1<<64-1)
	return p
}

// The power goes at each act of a row of calls, and of the writes that wait then one is torn at each place.
func TestPowerGoesAnywhere(t *testing.T) {
	some := map[int]int{}
	for _, sectors := range []int{24, 60} {
		for n := 0; ; n++ {
			d := fresh(t, sectors)
			a := open(t, d)
			d.Arm(n)
			p := steps(t, a)
			for _, keep := range keeps(d.Waiting()) {
				some[p.checkKept(t, d, keep)]++
			}
			if !d.Up() {
				checkOver(t, a, api.ErrDead)
				continue
			}
			if n < 40 {
				t.Errorf("of %d sectors: %d acts in all", sectors, n)
			}
			break
		}
	}
	if some[0] == 0 || some[1] == 0 {
		t.Errorf("so many crashes left the last state that was safe, and those behind it: %v", some)
	}
}

// A crash between two calls takes nothing that was answered, but a Trim.
func TestCrashBetween(t *testing.T) {
	d := fresh(t, 60)
	a := open(t, d)
	p := begin(a)
	for i := range uint64(30) {
		switch i % 5 {
		case 0:
			p.prepare(t, a, ballot(i+1, int(i%12)))
		case 3:
			p.trim(t, a, i/2)
		default:
			p.accept(t, a, vote(1+i*7%30, i+1, 0, text(int(i), int(i%11))))
		}
		for _, keep := range keeps(d.Waiting()) {
			p.checkKept(t, d, keep)
		}
	}
}

// One life behind the other on one disk: the ballot promised never falls, if it was answered, and votes stay.
func TestManyLives(t *testing.T) {
	for seed := range 60 {
		draw := rand.New(rand.NewSource(int64(seed)))
		d := fresh(t, 12+draw.Intn(60))
		high := none
		for range 30 {
			a := open(t, d)
			p := begin(a)
			d.Arm(draw.Intn(30))
			for i := 0; d.Up() && i < 40; i++ {
				if accept.Less(a.Promised(), high) {
					t.Fatalf("%v is promised, and %v was", a.Promised(), high)
				}
				high = a.Promised()
				p.step(t, a, draw)
			}
			keep := drawnKeep(draw, d.Waiting())
			p.checkKept(t, d, keep)
			d.Crash(keep)
			if now := open(t, d).Promised(); accept.Less(now, high) {
				t.Fatalf("behind a crash %v is promised, and %v was", now, high)
			}
		}
	}
}

// step does one call, mostly at a ballot near the one promised.
func (p *promise) step(t *testing.T, a *accept.Acceptor, draw *rand.Rand) {
	t.Helper()
	b := p.last().promised
	switch draw.Intn(4) {
	case 0:
		b = ballot(b.N+uint64(draw.Intn(3)), draw.Intn(12))
	case 1:
		b = ballot(1+uint64(draw.Intn(20)), draw.Intn(12))
	}
	if !accept.Right(b) {
		b = ballot(1, 0)
	}
	switch draw.Intn(6) {
	case 0:
		p.prepare(t, a, b)
	case 1:
		p.trim(t, a, uint64(draw.Intn(9)))
	default:
		p.accept(t, a, api.Vote{Slot: 1 + uint64(draw.Intn(9)), Ballot: b, Value: []byte(text(draw.Intn(99), draw.Intn(30)))})
	}
}

// drawnKeep: of each write that waits nothing, a part, or all.
func drawnKeep(draw *rand.Rand, n int) []int {
	l := make([]int, n)
	for i := range l {
		l[i] = api.Sector
		if draw.Intn(3) == 0 {
			l[i] = draw.Intn(api.Sector + 1)
		}
	}
	return l[:draw.Intn(n+1)]
}
