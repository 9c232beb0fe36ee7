package propose_test

import (
	"bytes"
	"math"
	"math/rand"
	"slices"
	"testing"

	"seawall/api"
	"seawall/propose"
	"seawall/quorum"
)

// plain is a proposer as the chapter's words tell it: all that it was told stands in lists, and each answer is found in them anew.
type plain struct {
	q        api.Quorum
	b        api.Ballot
	from     uint64
	promises []gathered
	proposed []api.Vote
	accepted []gathered
}

// gathered is what a node promised with, or in which slot it accepted.
type gathered struct {
	node  int
	votes []api.Vote
	slot  uint64
}

func plainRight(b api.Ballot) bool {
	return b.N > 0 && 0 <= b.Node && b.Node <= 11
}

func plainLess(a, b api.Ballot) bool {
	return a.N < b.N || a.N == b.N && a.Node < b.Node
}

func plainNew(q api.Quorum, b api.Ballot, from uint64) (*plain, api.Errno) {
	if err := quorum.Right(q); err != api.OK {
		return nil, err
	}
	if !plainRight(b) || from == 0 {
		return nil, api.ErrArg
	}
	return &plain{q: q, b: b, from: from}, api.OK
}

// node: is it one of q's?
func (p *plain) node(node int) bool {
	return node >= 0 && node <= p.q.Nodes-1
}

func (p *plain) promise(node int, l []api.Vote) api.Errno {
	if !p.node(node) {
		return api.ErrArg
	}
	for i, v := range l {
		rises := i == 0 || l[i-1].Slot < v.Slot
		if v.Slot < p.from || !rises || !plainRight(v.Ballot) || !plainLess(v.Ballot, p.b) || len(v.Value) > 100 {
			return api.ErrVote
		}
	}
	if !slices.ContainsFunc(p.promises, func(g gathered) bool { return g.node == node }) {
		p.promises = append(p.promises, gathered{node: node, votes: copied(l)})
	}
	return api.OK
}

func (p *plain) ready() bool {
	set := uint32(0)
	for _, g := range p.promises {
		set |= 1 << g.node
	}
	return quorum.First(p.q, set)
}

func (p *plain) must(slot uint64) ([]byte, bool) {
	var best api.Vote
	for node := range p.q.Nodes {
		for _, g := range p.promises {
			for _, v := range g.votes {
				if g.node == node && v.Slot == slot && plainLess(best.Ballot, v.Ballot) {
					best = v
				}
			}
		}
	}
	return best.Value, best.Slot > 0
}

func (p *plain) top() uint64 {
	top := uint64(0)
	for _, g := range p.promises {
		for _, v := range g.votes {
			top = max(top, v.Slot)
		}
	}
	return top
}

// at: what was proposed in a slot.
func (p *plain) at(slot uint64) (api.Vote, bool) {
	i := slices.IndexFunc(p.proposed, func(v api.Vote) bool { return v.Slot == slot })
	if i < 0 {
		return api.Vote{}, false
	}
	return p.proposed[i], true
}

func (p *plain) propose(slot uint64, own []byte) (api.Vote, api.Errno) {
	v, was := p.at(slot)
	value, must := p.must(slot)
	switch {
	case !p.ready():
		return api.Vote{}, api.ErrState
	case slot < p.from:
		return api.Vote{}, api.ErrArg
	case len(own) > 100 && !was && !must:
		return api.Vote{}, api.ErrLong
	case was:
		return v, api.OK
	case !must:
		value = own
	}
	v = api.Vote{Slot: slot, Ballot: p.b, Value: bytes.Clone(value)}
	p.proposed = append(p.proposed, v)
	return v, api.OK
}

func (p *plain) accept(node int, slot uint64) api.Errno {
	if !p.node(node) {
		return api.ErrArg
	}
	if _, was := p.at(slot); !was {
		return api.ErrNone
	}
	p.accepted = append(p.accepted, gathered{node: node, slot: slot})
	return api.OK
}

func (p *plain) chosen(slot uint64) ([]byte, bool) {
	set := uint32(0)
	for _, g := range p.accepted {
		if g.slot == slot {
			set |= 1 << g.node
		}
	}
	v, was := p.at(slot)
	if !was || !quorum.Second(p.q, set) {
		return nil, false
	}
	return v.Value, true
}

func (p *plain) prefix() uint64 {
	for slot := p.from; ; slot++ {
		if _, ok := p.chosen(slot); !ok {
			return slot - 1
		}
		if slot == math.MaxUint64 {
			return slot
		}
	}
}

// both is a proposer and a plain one: to both the same is done.
type both struct {
	x     *propose.Proposer
	p     *plain
	early []byte // was told some time ago
	was   []byte // what it was
}

// newBoth: with what bytes say; nil, if there is none. What was handed in is spoilt.
func newBoth(t *testing.T, h *hands) *both {
	t.Helper()
	q, b, from := h.quorum(), h.ballot(ballot(20, 5)), h.from()
	own := q
	own.Sites = slices.Clone(q.Sites)
	x, err := propose.New(own, b, from)
	if !slices.Equal(own.Sites, q.Sites) {
		t.Fatalf("New made %v of %v", own.Sites, q.Sites)
	}
	for i := range own.Sites {
		own.Sites[i] = 50
	}
	p, want := plainNew(q, b, from)
	if err != want || (x != nil) != (err == api.OK) {
		t.Fatalf("New(%v, %v, %d): %v, %d, not %d", q, b, from, x, err, want)
	}
	if p == nil {
		return nil
	}
	return &both{x: x, p: p}
}

// check: both tell the same, and what was told some time ago is as it was.
func (b *both) check(t *testing.T) {
	t.Helper()
	if b.x.Ready() != b.p.ready() || b.x.Top() != b.p.top() || b.x.Prefix() != b.p.prefix() {
		t.Fatalf("Ready, Top, Prefix: %t, %d, %d, not %t, %d, %d", b.x.Ready(), b.x.Top(), b.x.Prefix(), b.p.ready(), b.p.top(), b.p.prefix())
	}
	slots := []uint64{0, 1, b.p.from - 1, b.p.top(), b.p.prefix(), math.MaxUint64}
	for i := range uint64(12) {
		slots = append(slots, b.p.from+i)
	}
	for _, slot := range slots {
		v, ok := b.x.Must(slot)
		if want, wantOK := b.p.must(slot); !bytes.Equal(v, want) || ok != wantOK {
			t.Fatalf("Must(%d): %q, %t, not %q, %t", slot, v, ok, want, wantOK)
		}
		v, ok = b.x.Chosen(slot)
		if want, wantOK := b.p.chosen(slot); !bytes.Equal(v, want) || ok != wantOK {
			t.Fatalf("Chosen(%d): %q, %t, not %q, %t", slot, v, ok, want, wantOK)
		}
	}
	if !bytes.Equal(b.early, b.was) {
		t.Fatalf("what was told is %q, not %q", b.early, b.was)
	}
}

// act does one act, which bytes say, to both.
func (b *both) act(t *testing.T, h *hands) {
	t.Helper()
	switch c := h.next() % 64; {
	case c < 14:
		b.promise(t, h)
	case c < 30:
		slot, own := h.slot(b.p.from), h.value()
		v, err := b.x.Propose(slot, own)
		want, wantErr := b.p.propose(slot, own)
		if !sameVote(v, want) || err != wantErr {
			t.Fatalf("Propose(%d, %q): %v, %d, not %v, %d", slot, own, v, err, want, wantErr)
		}
		clear(own)
		b.early, b.was = v.Value, bytes.Clone(v.Value)
	case c < 58:
		node, slot := h.node(b.p.q.Nodes), h.slot(b.p.from)
		err := b.x.Accepted(node, slot)
		if want := b.p.accept(node, slot); err != want {
			t.Fatalf("Accepted(%d, %d): %d, not %d", node, slot, err, want)
		}
	case c < 61:
		b.early, _ = b.x.Must(h.slot(b.p.from))
		b.was = bytes.Clone(b.early)
	default:
		b.early, _ = b.x.Chosen(h.slot(b.p.from))
		b.was = bytes.Clone(b.early)
	}
}

func (b *both) promise(t *testing.T, h *hands) {
	t.Helper()
	node, l := h.node(b.p.q.Nodes), h.votes(b.p.from, b.p.b)
	err := b.x.Promise(node, l)
	if want := b.p.promise(node, l); err != want {
		t.Fatalf("Promise(%d, %v): %d, not %d", node, l, err, want)
	}
	for _, v := range l {
		clear(v.Value)
	}
	clear(l)
}

// hands gives numbers, one behind the other, of bytes; noughts when they are at an end.
type hands []byte

func (h *hands) next() int {
	if len(*h) == 0 {
		return 0
	}
	c := (*h)[0]
	*h = (*h)[1:]
	return int(c)
}

// quorum: of any kind; now and then one that may not be.
func (h *hands) quorum() api.Quorum {
	n := 1 + h.next()%12
	if h.next()%3 > 0 {
		n = 1 + n%5
	}
	switch c := h.next(); {
	case c < 80:
		one := 1 + h.next()%n
		return api.Quorum{Kind: 1, Nodes: n, One: one, Two: min(n, n-one+1+c%2)}
	case c < 150:
		l := []api.Quorum{{Nodes: 6, One: 2, Two: 3}, {Nodes: 6, One: 3, Two: 2}, {Nodes: 4, One: 2, Two: 2}, {Nodes: n, One: 1, Two: n}, {Nodes: n, One: n, Two: 1}, {Nodes: 12, One: 3, Two: 4}}
		q := l[c%len(l)]
		q.Kind = 2
		return q
	case c < 240:
		q := api.Quorum{Kind: 3, Nodes: n}
		for range n {
			q.Sites = append(q.Sites, h.next()%4)
		}
		return q
	}
	return api.Quorum{Kind: h.next() % 5, Nodes: n, One: h.next() % 14, Two: h.next() % 14}
}

// from: mostly 1 or little more; now and then near the end of all slots, or 0.
func (h *hands) from() uint64 {
	switch c := h.next(); {
	case c < 120:
		return 1
	case c < 180:
		return uint64(c)
	case c < 250:
		return math.MaxUint64 - uint64(c%9)
	}
	return 0
}

// ballot: mostly one near another; now and then one that may not be.
func (h *hands) ballot(near api.Ballot) api.Ballot {
	switch n := h.next(); {
	case n < 100:
		return ballot(near.N-min(near.N-1, uint64(n%4)), n%12)
	case n < 190:
		return ballot(1+uint64(n%4), n/4%12)
	case n < 230:
		return ballot(near.N, near.Node+n%4-1)
	case n < 250:
		return ballot(1<<(n%10*7), n%12)
	}
	return ballot(uint64(h.next()%3), h.next()-20)
}

// node: mostly one of so many.
func (h *hands) node(nodes int) int {
	switch c := h.next(); {
	case c < 240:
		return c % nodes
	case c < 250:
		return nodes
	default:
		return c - 256
	}
}

// slot: mostly one of a few from one on; now and then one below it, or far off.
func (h *hands) slot(from uint64) uint64 {
	switch c := h.next(); {
	case c < 235:
		return from + uint64(c%5)
	case c < 245:
		return from - 1
	case c < 250:
		return 0
	default:
		return math.MaxUint64 - uint64(c%3)
	}
}

// value: mostly a short one; now and then of the greatest size, or of more.
func (h *hands) value() []byte {
	n := h.next()
	switch {
	case n < 220:
		return []byte(text(n, n%6))
	case n < 250:
		return []byte(text(n, 100))
	}
	return []byte(text(n, 101))
}

// votes: mostly rising, and of lesser ballots than that one.
func (h *hands) votes(from uint64, b api.Ballot) []api.Vote {
	var l []api.Vote
	slot := from
	for range h.next() % 5 {
		slot += uint64(h.next() % 2)
		v := api.Vote{Slot: slot, Ballot: ballot(1+uint64(h.next()%3), h.next()%12), Value: h.value()}
		switch c := h.next(); {
		case c < 20:
			v.Ballot = h.ballot(b)
		case c < 30:
			v.Slot = h.slot(from)
		}
		l = append(l, v)
		slot = v.Slot + 1
	}
	return l
}

// play does all acts that bytes say.
func play(t *testing.T, row []byte) {
	h := hands(row)
	b := newBoth(t, &h)
	if b == nil {
		return
	}
	b.check(t)
	for n := 0; len(h) > 0 && n < 300; n++ {
		b.act(t, &h)
		b.check(t)
	}
}

func TestDrawnActs(t *testing.T) {
	for seed := range 1500 {
		draw := rand.New(rand.NewSource(int64(seed)))
		row := make([]byte, 20+draw.Intn(600))
		draw.Read(row)
		play(t, row)
	}
}

func FuzzPropose(f *testing.F) {
	f.Add([]byte("a row of acts, as the bytes say, of one proposer"))
	f.Add(bytes.Repeat([]byte{2, 1, 3, 9, 40, 0, 21, 7}, 30))
	f.Add(slices.Repeat([]byte{5, 1, 200, 40, 1, 63, 18, 6, 48, 12, 55}, 20))
	f.Fuzz(play)
}
