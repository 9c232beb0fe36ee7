package synod_test

import (
	"bytes"
	"math/rand"
	"slices"
	"testing"

	"seawall/api"
	"seawall/quorum"
	"seawall/synod"
)

// plain is a room as the chapter's words tell it: all that happened to a node stands in a list, and what it has is found in that anew.
type plain struct {
	q     api.Quorum
	row   []api.Mail
	nodes [][]event
}

// event is what happened to a node: it was started with a value (Kind 0), a letter came to it that was not refused, or it crashed (Kind -1).
type event struct {
	api.Mail
	value string
}

func plainLess(a, b api.Ballot) bool {
	return a.N < b.N || a.N == b.N && a.Node < b.Node
}

func (p *plain) isNode(node int) bool {
	return 0 <= node && node <= p.q.Nodes-1
}

func (p *plain) note(node int, e event) {
	p.nodes[node] = append(p.nodes[node], e)
}

// seen: the greatest N of all starts, and of all letters 1 and 3.
func (p *plain) seen(node int) uint64 {
	n := uint64(0)
	for _, e := range p.nodes[node] {
		if e.Kind == 0 || e.Kind == 1 || e.Kind == 3 {
			n = max(n, e.Ballot.N)
		}
	}
	return n
}

// promised: of the last letter 1 or 3 that was not refused.
func (p *plain) promised(node int) api.Ballot {
	for _, e := range slices.Backward(p.nodes[node]) {
		if e.Kind == 1 || e.Kind == 3 {
			return e.Ballot
		}
	}
	return api.Ballot{}
}

// vote: of the last letter 3; none, or one.
func (p *plain) vote(node int) []api.Vote {
	for _, e := range slices.Backward(p.nodes[node]) {
		if e.Kind == 3 {
			return e.Votes
		}
	}
	return nil
}

// run: what happened since a node was started last, its start first; nothing, if it has crashed since.
func (p *plain) run(node int) []event {
	l := p.nodes[node]
	for i, e := range slices.Backward(l) {
		switch e.Kind {
		case 0:
			return l[i:]
		case -1:
			return nil
		}
	}
	return nil
}

// runs: has the node a proposer of this ballot?
func (p *plain) runs(node int, b api.Ballot) bool {
	l := p.run(node)
	return len(l) > 0 && l[0].Ballot == b
}

// senders: of letters of a kind.
func senders(l []event, kind int) uint32 {
	set := uint32(0)
	for _, e := range l {
		if e.Kind == kind {
			set |= 1 << e.From
		}
	}
	return set
}

func (p *plain) ready(l []event) bool {
	return quorum.First(p.q, senders(l, 2))
}

// proposed: the value of the greatest ballot that came with promises; else the own one.
func proposed(l []event) string {
	var best api.Ballot
	value := l[0].value
	for _, e := range l {
		if e.Kind != 2 {
			continue
		}
		for _, v := range e.Votes {
			if plainLess(best, v.Ballot) {
				best, value = v.Ballot, string(v.Value)
			}
		}
	}
	return value
}

// learned: the last value that was chosen between two crashes.
func (p *plain) learned(node int) (string, bool) {
	value, ok := "", false
	start := 0
	for i, e := range p.nodes[node] {
		switch e.Kind {
		case -1:
			value, ok = "", false
		case 0:
			start = i
		case 4:
			if l := p.nodes[node][start : i+1]; quorum.Second(p.q, senders(l, 4)) {
				value, ok = proposed(l), true
			}
		}
	}
	return value, ok
}

func (p *plain) voted(node int) (api.Ballot, api.Vote) {
	if !p.isNode(node) {
		return api.Ballot{}, api.Vote{}
	}
	for _, v := range p.vote(node) {
		return p.promised(node), v
	}
	return p.promised(node), api.Vote{}
}

func (p *plain) send(m api.Mail) {
	if len(p.row) <= 199 {
		p.row = append(p.row, m)
	}
}

func (p *plain) sendAll(m api.Mail) {
	for m.To = 0; m.To < p.q.Nodes; m.To++ {
		p.send(m)
	}
}

func (p *plain) start(node int, value []byte) (api.Ballot, api.Errno) {
	if !p.isNode(node) || len(value) > 100 {
		return api.Ballot{}, api.ErrArg
	}
	b := api.Ballot{N: p.seen(node) + 1, Node: node}
	p.note(node, event{Mail: api.Mail{Ballot: b}, value: string(value)})
	p.sendAll(api.Mail{Kind: 1, From: node, Ballot: b})
	return b, api.OK
}

func (p *plain) crash(node int) api.Errno {
	if !p.isNode(node) {
		return api.ErrArg
	}
	p.note(node, event{Mail: api.Mail{Kind: -1}})
	return api.OK
}

func (p *plain) there(at int) bool {
	return at >= 0 && at <= len(p.row)-1
}

func (p *plain) drop(at int) bool {
	if !p.there(at) {
		return false
	}
	p.row = append(slices.Clone(p.row[:at]), p.row[at+1:]...)
	return true
}

func (p *plain) twice(at int) bool {
	if !p.there(at) || len(p.row) == 200 {
		return false
	}
	p.row = append(p.row, p.row[at])
	return true
}

func (p *plain) take(at int) bool {
	if !p.there(at) {
		return false
	}
	m := p.row[at]
	p.drop(at)
	node := m.To
	back := api.Mail{Kind: m.Kind + 1, From: node, To: m.From, Ballot: m.Ballot}
	refused := plainLess(m.Ballot, p.promised(node))
	switch {
	case m.Kind == 1 && !refused:
		p.note(node, event{Mail: m})
		back.Votes = p.vote(node)
		p.send(back)
	case m.Kind == 3 && !refused:
		p.note(node, event{Mail: m})
		p.send(back)
	case m.Kind == 2 && p.runs(node, m.Ballot) && !p.ready(p.run(node)):
		p.note(node, event{Mail: m})
		if l := p.run(node); p.ready(l) {
			v := api.Vote{Slot: 1, Ballot: m.Ballot, Value: []byte(proposed(l))}
			p.sendAll(api.Mail{Kind: 3, From: node, Ballot: m.Ballot, Votes: []api.Vote{v}})
		}
	case m.Kind == 4 && p.runs(node, m.Ballot):
		p.note(node, event{Mail: m})
	}
	return true
}

// both is a room and a plain one: to both the same is done.
type both struct {
	r     *synod.Room
	p     *plain
	early []byte // was told some time ago
	was   []byte // what it was
}

func newBoth(t *testing.T, h *hands) *both {
	t.Helper()
	q := h.quorum()
	r, err := synod.New(q)
	if want := quorum.Right(q); err != want || (r != nil) != (err == api.OK) {
		t.Fatalf("New(%v): %v, %d, not %d", q, r, err, want)
	}
	if r == nil {
		return nil
	}
	return &both{r: r, p: &plain{q: q, nodes: make([][]event, q.Nodes)}}
}

// check: both tell the same, and what was told some time ago is as it was.
func (b *both) check(t *testing.T) {
	t.Helper()
	checkRow(t, b.r, b.p.row...)
	for node := -1; node <= b.p.q.Nodes; node++ {
		promised, v := b.p.voted(node)
		checkVoted(t, b.r, node, promised, v)
		value, ok := "", false
		if b.p.isNode(node) {
			value, ok = b.p.learned(node)
		}
		checkLearned(t, b.r, node, value, ok)
	}
	if !bytes.Equal(b.early, b.was) {
		t.Errorf("what was told is %q, not %q", b.early, b.was)
	}
	if t.Failed() {
		t.FailNow()
	}
}

// act does one act, which bytes say, to both.
func (b *both) act(t *testing.T, h *hands) {
	t.Helper()
	switch c := h.next(); {
	case c < 8:
		node, value := h.node(b.p.q.Nodes), h.value()
		got, err := b.r.Start(node, value)
		want, wantErr := b.p.start(node, value)
		if got != want || err != wantErr {
			t.Fatalf("Start(%d, %q): %v, %d, not %v, %d", node, value, got, err, want, wantErr)
		}
		clear(value)
	case c < 16:
		node := h.node(b.p.q.Nodes)
		err := b.r.Crash(node)
		if want := b.p.crash(node); err != want {
			t.Fatalf("Crash(%d): %d, not %d", node, err, want)
		}
	case c < 26:
		at := h.place(len(b.p.row))
		b.same(t, "Drop", at, b.r.Drop(at), b.p.drop(at))
	case c < 50:
		at := h.place(len(b.p.row))
		b.same(t, "Twice", at, b.r.Twice(at), b.p.twice(at))
	case c < 60:
		b.tell(h)
	default:
		at := h.place(len(b.p.row))
		b.same(t, "Take", at, b.r.Take(at), b.p.take(at))
	}
}

func (b *both) same(t *testing.T, call string, at int, got, want bool) {
	t.Helper()
	if got != want {
		t.Fatalf("%s(%d) of %d: %t", call, at, len(b.p.row), got)
	}
}

// tell: some value is told, and held against itself later.
func (b *both) tell(h *hands) {
	switch h.next() % 3 {
	case 0:
		b.early, _ = b.r.Learned(h.node(b.p.q.Nodes))
	case 1:
		_, v := b.r.Voted(h.node(b.p.q.Nodes))
		b.early = v.Value
	default:
		m, _ := b.r.Look(h.place(len(b.p.row)))
		for _, v := range m.Votes {
			b.early = v.Value
		}
	}
	b.was = bytes.Clone(b.early)
}

// hands gives numbers, one behind the other, of bytes; noughts when they are at an end.
type hands []byte

func (h *hands) next() int {
	if len(*h) == 0 {
		return 0
	}
	c := (*h)[0]
	*h = (*h)[1:]
	return int(c)
}

// quorum: of any kind; now and then one that may not be.
func (h *hands) quorum() api.Quorum {
	c := h.next()
	if c < 200 {
		return shapes[c%len(shapes)]
	}
	n := 1 + h.next()%12
	if c < 240 {
		one := 1 + h.next()%n
		return api.Quorum{Kind: 1, Nodes: n, One: one, Two: n - one + 1}
	}
	return api.Quorum{Kind: h.next() % 5, Nodes: n, One: h.next() % 14, Two: h.next() % 14}
}

// node: mostly one of so many.
func (h *hands) node(nodes int) int {
	switch c := h.next(); {
	case c < 246:
		return c % nodes
	case c < 251:
		return nodes
	default:
		return c - 256
	}
}

// value: mostly a short one; now and then of the greatest size, or of more.
func (h *hands) value() []byte {
	switch n := h.next(); {
	case n < 230:
		return []byte(text(n, n%6))
	case n < 250:
		return []byte(text(n, 100))
	default:
		return []byte(text(n, 101))
	}
}

// place: mostly one of a row of so many, and mostly near its beginning.
func (h *hands) place(n int) int {
	switch c := h.next(); {
	case c < 130:
		return min(c%4, max(n-1, 0))
	case c < 240:
		return c * n / 240
	case c < 248:
		return n
	default:
		return c - 256
	}
}

// play does all acts that bytes say.
func play(t *testing.T, row []byte) {
	h := hands(row)
	b := newBoth(t, &h)
	if b == nil {
		return
	}
	b.check(t)
	for n := 0; len(h) > 0 && n < 400; n++ {
		b.act(t, &h)
		b.check(t)
	}
}

func TestDrawnActs(t *testing.T) {
	for seed := range 700 {
		draw := rand.New(rand.NewSource(int64(seed)))
		row := make([]byte, 20+draw.Intn(700))
		draw.Read(row)
		play(t, row)
	}
}

func FuzzSynod(f *testing.F) {
	f.Add([]byte("a row of acts, as the bytes say, of one room"))
	f.Add(append([]byte{0, 1, 0, 5}, bytes.Repeat([]byte{90, 0}, 30)...))
	f.Add(slices.Repeat([]byte{2, 1, 9, 200, 3, 200, 0, 200, 7, 200, 131, 30, 1, 9, 2, 200, 0, 200, 1}, 20))
	f.Fuzz(play)
}
