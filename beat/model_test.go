package beat_test

import (
	"bytes"
	"math/rand"
	"slices"
	"testing"

	"seawall/api"
	"seawall/beat"
)

// plain is a view as the chapter's words tell it: of each beat, and of each change of who is up, it notes when it was.
type plain struct {
	sites    []int
	me       int
	patience int
	now      int   // ticks that went by
	heard    []int // when each node was heard last
	changed  int   // when Up was another set last
}

func newPlain(sites []int, me, patience int) *plain {
	return &plain{sites: sites, me: me, patience: patience, heard: slices.Repeat([]int{-patience}, len(sites))}
}

func (p *plain) hear(node int) api.Errno {
	if node < 0 || node >= len(p.sites) {
		return api.ErrArg
	}
	was := p.up()
	p.heard[node] = p.now
	p.note(was)
	return api.OK
}

func (p *plain) tick() {
	was := p.up()
	p.now++
	p.note(was)
}

func (p *plain) note(was uint32) {
	if p.up() != was {
		p.changed = p.now
	}
}

func (p *plain) since(node int) int {
	switch {
	case node < 0 || node >= len(p.sites):
		return -1
	case node == p.me:
		return 0
	}
	return min(p.now-p.heard[node], p.patience)
}

func (p *plain) up() uint32 {
	up := uint32(0)
	for node := range p.sites {
		if p.since(node) < p.patience {
			up += 1 << node
		}
	}
	return up
}

func (p *plain) calm() int {
	return min(p.now-p.changed, 1000)
}

// plainOrder: the home site is gone through, then each other one.
func plainOrder(sites []int, up uint32, home int) []int {
	var l []int
	add := func(site int) {
		for node, s := range sites {
			if s == site && up>>node&1 == 1 {
				l = append(l, node)
			}
		}
	}
	add(home)
	for site := range 12 {
		if site != home {
			add(site)
		}
	}
	return l
}

// both is a view and a plain one: to both the same is done.
type both struct {
	v     *beat.View
	p     *plain
	early []int // an order that was told some time ago
	was   []int // what it was
}

// check: both tell the same, and what was told some time ago is as it was.
func (b *both) check(t *testing.T) {
	t.Helper()
	checkUp(t, b.v, b.p.up())
	checkCalm(t, b.v, b.p.calm())
	for node := -2; node < 15; node++ {
		if since := b.v.Since(node); since != b.p.since(node) {
			t.Errorf("Since(%d): %d, not %d", node, since, b.p.since(node))
		}
		checkOrder(t, b.v, node, plainOrder(b.p.sites, b.p.up(), node)...)
	}
	if !slices.Equal(b.early, b.was) {
		t.Errorf("an order that was told is %d, not %d", b.early, b.was)
	}
	if t.Failed() {
		t.FailNow()
	}
}

// act does one act, which bytes say, to both.
func (b *both) act(t *testing.T, h *hands) {
	t.Helper()
	switch c := h.next() % 64; {
	case c < 28:
		node := h.next()%(len(b.p.sites)+2) - 1
		checkHear(t, b.v, node, b.p.hear(node))
	case c < 56:
		b.tick(1)
	case c < 60:
		b.tick(h.next() % 8)
	case c < 61:
		b.tick(b.p.patience - 1)
	case c < 62 && h.next() < 8: // seldom: so many take their time
		b.tick(1000 - h.next()%4)
	default:
		b.early = b.v.Order(h.next() % 12)
		b.was = slices.Clone(b.early)
	}
}

func (b *both) tick(n int) {
	for range n {
		b.v.Tick()
		b.p.tick()
	}
}

// hands gives numbers, one behind the other, of bytes; noughts when they are at an end.
type hands []byte

func (h *hands) next() int {
	if len(*h) == 0 {
		return 0
	}
	c := (*h)[0]
	*h = (*h)[1:]
	return int(c)
}

// sites: of some nodes, on few sites or on many.
func (h *hands) sites() []int {
	n, many := 1+h.next()%12, 1+h.next()%12
	var l []int
	for range n {
		l = append(l, h.next()%many)
	}
	return l
}

// patience: mostly short.
func (h *hands) patience() int {
	if c := h.next(); c < 240 {
		return 1 + c%6
	}
	return 1000 - h.next()%3
}

// play does all acts that bytes say.
func play(t *testing.T, row []byte) {
	h := hands(row)
	sites := h.sites()
	me, patience := h.next()%len(sites), h.patience()
	b := &both{v: start(t, sites, me, patience), p: newPlain(sites, me, patience)}
	b.check(t)
	for n := 0; len(h) > 0 && n < 200; n++ {
		b.act(t, &h)
		b.check(t)
	}
}

func TestDrawnActs(t *testing.T) {
	for seed := range 1000 {
		draw := rand.New(rand.NewSource(int64(seed)))
		row := make([]byte, 20+draw.Intn(400))
		draw.Read(row)
		play(t, row)
	}
}

func FuzzBeat(f *testing.F) {
	f.Add([]byte("a row of acts, as the bytes say, of one view"))
	f.Add(append([]byte{2, 1, 0, 0, 1, 1, 1}, bytes.Repeat([]byte{0, 1, 30, 0, 3, 30, 30}, 20)...))
	f.Add(append([]byte{11, 11}, bytes.Repeat([]byte{9, 4, 33, 61, 0, 1, 57, 5}, 30)...))
	f.Fuzz(play)
}
