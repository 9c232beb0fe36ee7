package heal

import (
	"cmp"
	"math/bits"
	"slices"

	"seawall/api"
)

// plan is moves, and what they hang on.
type plan struct {
	sites  []int // each node's
	up     uint32
	copies int
	loads  []int // each node's: how many places have it
	moves  []api.Move
}

// begin: nothing moves yet.
func begin(sites []int, up uint32, copies int, places []api.Place) (*plan, api.Errno) {
	err := Check(sites, places)
	switch {
	case err != api.OK:
		return nil, err
	case copies < 1 || copies > api.MaxNodes:
		return nil, api.ErrArg
	}
	p := &plan{sites: sites, up: up & (1<<len(sites) - 1), copies: copies, loads: make([]int, len(sites))}
	for _, place := range places {
		for _, node := range place.Nodes {
			p.loads[node]++
		}
	}
	return p, api.OK
}

// live: those of some nodes that are up.
func (p *plan) live(nodes []int) uint32 {
	set := uint32(0)
	for _, node := range nodes {
		set |= 1 << node
	}
	return set & p.up
}

// fill: copies of a chunk are made till there are enough, or no node is free.
func (p *plan) fill(chunk int, live uint32) {
	for live != 0 && bits.OnesCount32(live) < p.copies && live != p.up {
		to := slices.MinFunc(members(p.up&^live), p.order(live))
		from := bits.TrailingZeros32(cmp.Or(live&p.beside(to), live))
		p.moves = append(p.moves, api.Move{Chunk: chunk, From: from, To: to})
		p.loads[to]++
		live |= 1 << to
	}
}

// thin: copies of a chunk go till there are no more than enough.
func (p *plan) thin(chunk int, live uint32) {
	for bits.OnesCount32(live) > p.copies {
		from := slices.MaxFunc(members(live), p.order(live))
		p.moves = append(p.moves, api.Move{Chunk: chunk, From: from, To: gone})
		p.loads[from]--
		live &^= 1 << from
	}
}

// order compares nodes: by on how many of its site a chunk is live, then by load, then by number.
func (p *plan) order(live uint32) func(a, b int) int {
	near := func(node int) int { return bits.OnesCount32(live & p.beside(node)) }
	return func(a, b int) int {
		return cmp.Or(
			cmp.Compare(near(a), near(b)),
			cmp.Compare(p.loads[a], p.loads[b]),
			cmp.Compare(a, b),
		)
	}
}

// beside: the nodes of a node's site.
func (p *plan) beside(node int) uint32 {
	set := uint32(0)
	for other, site := range p.sites {
		if site == p.sites[node] {
			set |= 1 << other
		}
	}
	return set
}

// members: the nodes of a set, rising.
func members(set uint32) []int {
	var l []int
	for ; set != 0; set &= set - 1 {
		l = append(l, bits.TrailingZeros32(set))
	}
	return l
}
