package net_test

import (
	"bytes"
	"math/rand"
	"slices"
	"testing"

	"seawall/api"
	"seawall/net"
)

// word: that two nodes are parted, or joined.
type word struct {
	a, b   int
	parted bool
}

// plain is a net as the chapter's words tell it: what was sent and what was said is kept for ever; what is under way are numbers of what was sent, and who is parted is found anew each time.
type plain struct {
	nodes int
	sent  []api.Packet
	row   []int
	said  []word
}

func (p *plain) isNode(a int) bool {
	return 0 <= a && a <= p.nodes-1
}

// isParted: what was said last of the two, whichever was named first.
func (p *plain) isParted(a, b int) bool {
	for _, w := range slices.Backward(p.said) {
		if w.a == a && w.b == b || w.a == b && w.b == a {
			return w.parted
		}
	}
	return false
}

func (p *plain) say(w word) api.Errno {
	if w.a == w.b || !p.isNode(w.a) || !p.isNode(w.b) {
		return api.ErrArg
	}
	p.said = append(p.said, w)
	return api.OK
}

func (p *plain) send(x api.Packet) api.Errno {
	if !p.isNode(x.From) || !p.isNode(x.To) {
		return api.ErrArg
	}
	if len(x.Body) > 1200 {
		return api.ErrLong
	}
	if len(p.row) == 256 {
		return api.ErrFull
	}
	if !p.isParted(x.From, x.To) {
		x.Body = slices.Clone(x.Body)
		p.row = append(p.row, len(p.sent))
		p.sent = append(p.sent, x)
	}
	return api.OK
}

func (p *plain) look(at int) (api.Packet, bool) {
	for i, number := range p.row {
		if i == at {
			return p.sent[number], true
		}
	}
	return api.Packet{}, false
}

// without: what is under way but for that place.
func (p *plain) without(at int) []int {
	var l []int
	for i, number := range p.row {
		if i != at {
			l = append(l, number)
		}
	}
	return l
}

func (p *plain) drop(at int) bool {
	_, ok := p.look(at)
	p.row = p.without(at)
	return ok
}

func (p *plain) twice(at int) bool {
	_, ok := p.look(at)
	if ok = ok && len(p.row) < 256; ok {
		p.row = append(p.row, p.row[at])
	}
	return ok
}

func (p *plain) back(at int) bool {
	_, ok := p.look(at)
	if ok {
		p.row = append(p.without(at), p.row[at])
	}
	return ok
}

// both is a net and a plain one, to which the same is done.
type both struct {
	n *net.Net
	p *plain
}

// check: both tell the same.
func (b *both) check(t *testing.T) {
	t.Helper()
	if b.n.Len() != len(b.p.row) {
		t.Fatalf("%d are under way, not %d", b.n.Len(), len(b.p.row))
	}
	for at := -1; at <= len(b.p.row); at++ {
		p, ok := b.n.Look(at)
		want, wantOK := b.p.look(at)
		if ok != wantOK || !same(p, want) {
			t.Fatalf("Look(%d): %v, %t, not %v, %t", at, p, ok, want, wantOK)
		}
	}
	for a := -1; a <= b.p.nodes; a++ {
		for c := -1; c <= b.p.nodes; c++ {
			if b.n.Parted(a, c) != b.p.isParted(a, c) {
				t.Fatalf("Parted(%d, %d): %t", a, c, b.n.Parted(a, c))
			}
		}
	}
}

// hands gives numbers, one behind the other, of bytes; noughts when they are at an end.
type hands []byte

func (h *hands) next() int {
	if len(*h) == 0 {
		return 0
	}
	c := (*h)[0]
	*h = (*h)[1:]
	return int(c)
}

// node: one, or now and then none.
func (h *hands) node(nodes int) int {
	c := h.next()
	if c >= 240 {
		return c%(nodes+6) - 3
	}
	return c % nodes
}

// place: one of the row, or now and then none.
func (h *hands) place(size int) int {
	c := h.next()
	if c >= 230 {
		return c%(size+6) - 3
	}
	return c % (size + 1)
}

// body: mostly a short text; now and then as long as may be, or longer.
func (h *hands) body() []byte {
	c := h.next()
	if c < 240 {
		return bytes.Repeat([]byte{byte(h.next())}, c%5)
	}
	return bytes.Repeat([]byte{byte(h.next())}, api.MaxPacket+c%5-2)
}

// act does one act, which bytes say, to both.
func (b *both) act(t *testing.T, h *hands) {
	t.Helper()
	switch c := h.next() % 32; {
	case c < 14:
		b.send(t, api.Packet{From: h.node(b.p.nodes), To: h.node(b.p.nodes), Body: h.body()})
	case c < 16:
		b.fill(t, h)
	case c < 22:
		b.pair(t, word{h.node(b.p.nodes), h.node(b.p.nodes), c < 19})
	default:
		b.move(t, c, h.place(b.n.Len()))
	}
}

// send sends a packet, whose body is spoilt then.
func (b *both) send(t *testing.T, x api.Packet) {
	t.Helper()
	before := slices.Clone(x.Body)
	err, want := b.n.Send(x), b.p.send(x)
	if err != want {
		t.Fatalf("Send(%v): %d, not %d", x, err, want)
	}
	if !bytes.Equal(x.Body, before) {
		t.Fatalf("Send made %v of %v", x.Body, before)
	}
	spoil(x.Body)
}

// fill sends until there is little room, or none.
func (b *both) fill(t *testing.T, h *hands) {
	t.Helper()
	goal := api.MaxPackets - h.next()%3
	x := packet(h.next()%b.p.nodes, h.next()%b.p.nodes, "fill")
	for b.n.Len() < goal && !b.p.isParted(x.From, x.To) {
		b.send(t, packet(x.From, x.To, "fill"))
	}
}

// pair parts two, or joins them.
func (b *both) pair(t *testing.T, w word) {
	t.Helper()
	call := b.n.Join
	if w.parted {
		call = b.n.Part
	}
	if err, want := call(w.a, w.b), b.p.say(w); err != want {
		t.Fatalf("%v: %d, not %d", w, err, want)
	}
}

// move does something with the packet at a place.
func (b *both) move(t *testing.T, c, at int) {
	t.Helper()
	var ok, want bool
	switch {
	case c < 25:
		p, was := api.Packet{}, api.Packet{}
		p, ok = b.n.Take(at)
		was, _ = b.p.look(at)
		want = b.p.drop(at)
		if !same(p, was) {
			t.Fatalf("Take(%d): %v, not %v", at, p, was)
		}
		spoil(p.Body)
	case c < 27:
		ok, want = b.n.Drop(at), b.p.drop(at)
	case c < 29:
		ok, want = b.n.Twice(at), b.p.twice(at)
	default:
		ok, want = b.n.Back(at), b.p.back(at)
	}
	if ok != want {
		t.Fatalf("the act %d at %d: %t, not %t", c, at, ok, want)
	}
}

// play does all acts that bytes say.
func play(t *testing.T, row []byte) {
	h := hands(row)
	nodes := h.next()%api.MaxNodes + 1
	b := &both{fresh(t, nodes), &plain{nodes: nodes}}
	for n := 0; len(h) > 0 && n < 1000; n++ {
		b.act(t, &h)
		b.check(t)
	}
}

func TestDrawnActs(t *testing.T) {
	for seed := range 400 {
		draw := rand.New(rand.NewSource(int64(seed)))
		row := make([]byte, draw.Intn(900))
		draw.Read(row)
		play(t, row)
	}
}

// Whatever becomes of packets, what is taken was sent, by a node that was not parted from the other one then.
func TestTakenWasSent(t *testing.T) {
	draw := rand.New(rand.NewSource(4))
	for range 100 {
		n := fresh(t, 3)
		var may []api.Packet
		for i := range 300 {
			a, b, at := draw.Intn(3), draw.Intn(3), draw.Intn(n.Len()+1)
			switch draw.Intn(12) {
			default:
				p := packet(a, b, string(rune('a'+i)))
				if !n.Parted(a, b) {
					may = append(may, p)
				}
				send(t, n, p)
			case 0, 1:
				n.Part(a, b)
			case 2, 3:
				n.Join(a, b)
			case 4:
				n.Drop(at)
			case 5:
				n.Twice(at)
			case 6:
				n.Back(at)
			case 7, 8:
				p, ok := n.Take(at)
				if ok && !slices.ContainsFunc(may, func(q api.Packet) bool { return same(p, q) }) {
					t.Fatalf("taken was %v, which was not sent, or was lost", p)
				}
			}
		}
	}
}

func FuzzNet(f *testing.F) {
	f.Add([]byte("a row of acts, as the bytes say"))
	f.Add(bytes.Repeat([]byte{1, 9, 14, 20, 25}, 40))
	f.Add(slices.Repeat([]byte{5, 7, 15, 4, 3, 1, 18, 6, 28, 12, 30}, 20))
	f.Fuzz(play)
}
