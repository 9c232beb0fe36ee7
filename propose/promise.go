package propose

import (
	"bytes"

	"seawall/accept"
	"seawall/api"
	"seawall/quorum"
)

// told is the vote of a slot that binds the proposer, of all that it was told: its node, too, by which one goes ahead of another of its ballot.
type told struct {
	node   int
	ballot api.Ballot
	value  []byte
}

// Promise: a node's.
func (p *Proposer) Promise(node int, l []api.Vote) api.Errno {
	switch {
	case p == nil:
		return api.ErrNil
	case !p.isNode(node):
		return api.ErrArg
	case !p.mayBe(l):
		return api.ErrVote
	case p.promised>>node&1 == 1:
		return api.OK
	}
	p.promised |= 1 << node
	for _, v := range l {
		p.hear(node, v)
	}
	return api.OK
}

// Ready: a quorum of the first phase?
func (p *Proposer) Ready() bool {
	return p != nil && quorum.First(p.quorums, p.promised)
}

// Must: what has to be proposed.
func (p *Proposer) Must(slot uint64) ([]byte, bool) {
	if p == nil {
		return nil, false
	}
	best, ok := p.told[slot]
	return bytes.Clone(best.value), ok
}

// Top: the last slot of which something has to be.
func (p *Proposer) Top() uint64 {
	if p == nil {
		return 0
	}
	return p.top
}

// mayBe: may a node promise with these votes?
func (p *Proposer) mayBe(l []api.Vote) bool {
	sound := 0
votes:
	for i, v := range l {
		switch {
		case v.Slot < p.from, i > 0 && v.Slot <= l[i-1].Slot:
			break votes
		case !accept.Right(v.Ballot), !accept.Less(v.Ballot, p.ballot):
			break votes
		case len(v.Value) > api.MaxCommand:
			break votes
		}
		sound++
	}
	return sound == len(l)
}

// hear: a node's vote binds, if it goes ahead of the one that bound till now.
func (p *Proposer) hear(node int, v api.Vote) {
	best, bound := p.told[v.Slot]
	if !bound || accept.Less(best.ballot, v.Ballot) || best.ballot == v.Ballot && node < best.node {
		p.told[v.Slot] = told{node: node, ballot: v.Ballot, value: bytes.Clone(v.Value)}
		p.top = max(p.top, v.Slot)
	}
}
