package heal_test

import (
	"bytes"
	"maps"
	"math"
	"math/rand"
	"slices"
	"testing"

	"seawall/api"
	"seawall/heal"
)

// plainRight: may places be, of nodes below an end? Each two are held against each other.
func plainRight(places []api.Place, end int) bool {
	ok := len(places) <= 256
	rising := func(n int, number func(int) int) {
		for i := range n {
			ok = ok && number(i) >= 0
			for j := range i {
				ok = ok && number(j) < number(i)
			}
		}
	}
	rising(len(places), func(i int) int { return places[i].Chunk })
	for _, p := range places {
		rising(len(p.Nodes), func(i int) int { return p.Nodes[i] })
		for _, node := range p.Nodes {
			ok = ok && node < end
		}
	}
	return ok
}

func plainCheck(sites []int, places []api.Place) api.Errno {
	ok := len(sites) > 0 && len(sites) < 13
	for _, site := range sites {
		ok = ok && site >= 0 && site < 12
	}
	switch {
	case !ok:
		return api.ErrArg
	case !plainRight(places, len(sites)):
		return api.ErrPlace
	}
	return api.OK
}

// plain is a plan as the chapter's words tell it: each move is done at once, and what hangs on moves is counted anew whenever it is asked for.
type plain struct {
	sites  []int
	up     uint32
	copies int
	has    []map[int]bool // of each place: the nodes with a copy
	moves  []api.Move
}

func (p *plain) isUp(node int) bool {
	return node < len(p.sites) && p.up>>node%2 == 1
}

func (p *plain) load(node int) int {
	sum := 0
	for _, has := range p.has {
		if has[node] {
			sum++
		}
	}
	return sum
}

// live: on which nodes the place is, rising; those of one site, or (site -1) of all.
func (p *plain) live(at, site int) []int {
	var l []int
	for node, s := range p.sites {
		if p.has[at][node] && p.isUp(node) && (site == -1 || s == site) {
			l = append(l, node)
		}
	}
	return l
}

// free: the nodes that are up and have no copy of the place.
func (p *plain) free(at int) []int {
	var l []int
	for node := range p.sites {
		if p.isUp(node) && !p.has[at][node] {
			l = append(l, node)
		}
	}
	return l
}

// least: of some nodes those with the least of something.
func least(nodes []int, of func(int) int) []int {
	low := math.MaxInt
	for _, node := range nodes {
		low = min(low, of(node))
	}
	var l []int
	for _, node := range nodes {
		if of(node) == low {
			l = append(l, node)
		}
	}
	return l
}

func (p *plain) fill(chunk, at int) {
	for len(p.live(at, -1)) > 0 && len(p.live(at, -1)) < p.copies && len(p.free(at)) > 0 {
		l := least(p.free(at), func(node int) int { return len(p.live(at, p.sites[node])) })
		to := least(l, p.load)[0]
		from := append(p.live(at, p.sites[to]), p.live(at, -1)...)[0]
		p.moves = append(p.moves, move(chunk, from, to))
		p.has[at][to] = true
	}
}

func (p *plain) thin(chunk, at int) {
	for len(p.live(at, -1)) > p.copies {
		l := least(p.live(at, -1), func(node int) int { return -len(p.live(at, p.sites[node])) })
		l = least(l, func(node int) int { return -p.load(node) })
		from := l[len(l)-1]
		p.moves = append(p.moves, move(chunk, from, -1))
		delete(p.has[at], from)
	}
}

// plainMoves: what Plan answers, or (drop) what Drop does.
func plainMoves(drop bool, sites []int, up uint32, copies int, places []api.Place) ([]api.Move, api.Errno) {
	err := plainCheck(sites, places)
	if err == api.OK && (copies < 1 || copies > 12) {
		err = api.ErrArg
	}
	if err != api.OK {
		return nil, err
	}
	p := &plain{sites: sites, up: up, copies: copies, has: plainSets(places)}
	for at, place := range places {
		if drop {
			p.thin(place.Chunk, at)
		} else {
			p.fill(place.Chunk, at)
		}
	}
	return p.moves, api.OK
}

// plainSets: each place's nodes.
func plainSets(places []api.Place) []map[int]bool {
	var l []map[int]bool
	for _, p := range places {
		has := map[int]bool{}
		for _, node := range p.Nodes {
			has[node] = true
		}
		l = append(l, has)
	}
	return l
}

func plainApply(places []api.Place, moves []api.Move) ([]api.Place, api.Errno) {
	if !plainRight(places, end) {
		return nil, api.ErrPlace
	}
	sets := plainSets(places)
	for _, m := range moves {
		at := slices.IndexFunc(places, func(p api.Place) bool { return p.Chunk == m.Chunk })
		if at < 0 || !sets[at][m.From] || sets[at][m.To] || m.To < -1 || m.To >= end {
			return nil, api.ErrPlace
		}
		if m.To == -1 {
			delete(sets[at], m.From)
		} else {
			sets[at][m.To] = true
		}
	}
	var l []api.Place
	for at, p := range places {
		l = append(l, place(p.Chunk, slices.Sorted(maps.Keys(sets[at]))...))
	}
	return l, api.OK
}

// hands gives numbers, one behind the other, of bytes; noughts when they are at an end.
type hands []byte

func (h *hands) next() int {
	if len(*h) == 0 {
		return 0
	}
	c := (*h)[0]
	*h = (*h)[1:]
	return int(c)
}

// seldom: once in some forty times.
func (h *hands) seldom() bool {
	return h.next() > 249
}

// odd: a number that may often not be.
func (h *hands) odd() int {
	l := []int{-1, -2, 0, 11, 12, 13, 31, 32, end - 1, end, math.MinInt, math.MaxInt}
	return l[h.next()%len(l)]
}

// sites: of some nodes, on few sites or on many.
func (h *hands) sites() []int {
	n, many := 1+h.next()%12, 1+h.next()%12
	if h.seldom() {
		n = 13 * (h.next() % 2)
	}
	var l []int
	for range n {
		l = append(l, h.next()%many)
	}
	if h.seldom() && n > 0 {
		l[h.next()%n] = h.odd()
	}
	return l
}

// up: who is up, mostly many nodes.
func (h *hands) up() uint32 {
	up := uint32(h.next()<<8 | h.next())
	for range h.next() % 3 {
		up |= uint32(h.next()<<8 | h.next())
	}
	return up
}

func (h *hands) copies() int {
	if h.seldom() {
		return h.odd()
	}
	return 1 + h.next()%[]int{3, 5, 12}[h.next()%3]
}

// places: of some chunks, each on some of so many nodes.
func (h *hands) places(nodes int) []api.Place {
	n, chunk := h.next()%8, 0
	if h.seldom() {
		n = 255 + h.next()%3
	}
	var l []api.Place
	for range n {
		chunk += h.next() % 4
		set := h.next()<<8 | h.next()
		if h.next()%2 == 0 {
			set &= h.next()<<8 | h.next()
		}
		p := place(chunk)
		for node := range nodes {
			if set>>node%2 == 1 {
				p.Nodes = append(p.Nodes, node)
			}
		}
		l = append(l, p)
		chunk++
	}
	if h.seldom() && n > 0 {
		spoil(h, &l[h.next()%n])
	}
	return l
}

// spoil: a place that may often not be.
func spoil(h *hands, p *api.Place) {
	n := len(p.Nodes)
	switch c := h.next() % 4; {
	case c == 0:
		p.Chunk = h.odd()
	case c == 1 && n > 0:
		p.Nodes[h.next()%n] = h.odd()
	case c == 2 && n > 0:
		p.Nodes[h.next()%n] = h.next() % 12
	default:
		p.Nodes = append(p.Nodes, h.odd())
	}
}

// moves: such as may be mostly, of some places, as they are behind those ahead.
func (h *hands) moves(places []api.Place) []api.Move {
	var l []api.Move
	for range h.next() % 8 {
		if len(places) == 0 {
			break
		}
		p := places[h.next()%len(places)]
		m := move(p.Chunk, h.next()%12, h.next()%13-1)
		if n := len(p.Nodes); n > 0 && !h.seldom() {
			m.From = p.Nodes[h.next()%n]
		}
		for range 20 {
			if slices.Contains(p.Nodes, m.To) {
				m.To = (m.To + 1) % 20
			}
		}
		if h.seldom() {
			for _, n := range []*int{&m.Chunk, &m.From, &m.To} {
				if h.next()%3 == 0 {
					*n = h.odd()
				}
			}
		}
		l = append(l, m)
		if now, err := plainApply(places, []api.Move{m}); err == api.OK {
			places = now
		}
	}
	return l
}

// play does what bytes say: chunks get copies, and lose them, while nodes go and come.
func play(t *testing.T, row []byte) {
	h := hands(row)
	sites := h.sites()
	places := h.places(len(sites))
	for n := 0; n < 1 || len(h) > 0 && n < 20; n++ {
		up, copies := h.up(), h.copies()
		checkCheck(t, sites, places, plainCheck(sites, places))
		want, err := plainMoves(false, sites, up, copies, places)
		checkMoves(t, "Plan", heal.Plan, sites, up, copies, places, want, err)
		less, err := plainMoves(true, sites, up, copies, places)
		checkMoves(t, "Drop", heal.Drop, sites, up, copies, places, less, err)
		moves := [][]api.Move{want, less, h.moves(places)}[h.next()%3]
		now, err := plainApply(places, moves)
		checkApply(t, places, moves, now, err)
		if t.Failed() {
			t.FailNow()
		}
		if err == api.OK && plainCheck(sites, now) == api.OK {
			places = now
		}
	}
}

func TestDrawnActs(t *testing.T) {
	for seed := range 2000 {
		draw := rand.New(rand.NewSource(int64(seed)))
		row := make([]byte, 20+draw.Intn(600))
		draw.Read(row)
		play(t, row)
	}
}

func FuzzHeal(f *testing.F) {
	f.Add([]byte("a row of nodes that go and come, and of chunks that get their copies anew"))
	f.Add(append([]byte{11, 2}, bytes.Repeat([]byte{1, 7, 0, 255, 3, 1, 99, 0, 2}, 30)...))
	f.Add(append([]byte{5, 5, 250, 1}, bytes.Repeat([]byte{250, 251, 2, 255, 0, 15, 33}, 30)...))
	f.Fuzz(play)
}

// All arrangements of four nodes on three sites, all that may be up, all that one chunk may be on, beside loads of many kinds.
func TestAllSmall(t *testing.T) {
	for n := range 81 * 16 * 16 {
		arranged, up, on := n/256, uint32(n/16%16), n%16
		sites := []int{arranged % 3, arranged / 3 % 3, arranged / 9 % 3, arranged / 27}
		l := []api.Place{place(1), place(2), place(3, n%4), place(4, n/7%4)}
		for node := range 4 {
			if on>>node%2 == 1 {
				l[1].Nodes = append(l[1].Nodes, node)
			}
			if n/3>>node%2 == 1 {
				l[0].Nodes = append(l[0].Nodes, node)
			}
		}
		for copies := 1; copies < 5; copies++ {
			want, _ := plainMoves(false, sites, up, copies, l)
			if got := plans(t, heal.Plan, sites, up, copies, l); !slices.Equal(got, want) {
				t.Fatalf("Plan(%d, %b, %d, %v): %v, not %v", sites, up, copies, l, got, want)
			}
			want, _ = plainMoves(true, sites, up, copies, l)
			if got := plans(t, heal.Drop, sites, up, copies, l); !slices.Equal(got, want) {
				t.Fatalf("Drop(%d, %b, %d, %v): %v, not %v", sites, up, copies, l, got, want)
			}
		}
	}
}
