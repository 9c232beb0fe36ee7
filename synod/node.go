package synod

import (
	"bytes"

	"seawall/accept"
	"seawall/api"
	"seawall/propose"
)

// slot: the only one in which nodes vote.
const slot = 1

// lasting is what of a node outlives a crash.
type lasting struct {
	promised api.Ballot
	vote     api.Vote // of the slot 0, if there is none
	seen     uint64   // the greatest N of a ballot
}

// node has what is embedded for ever, and the rest till a crash.
type node struct {
	lasting
	proposer *propose.Proposer // nil, if there is none
	ballot   api.Ballot        // the proposer's
	own      []byte            // what the node was started with
	learned  []byte
	knows    bool // has it learned anything? It may be no bytes
}

// start: a new proposer, of a ballot above all that the node has seen.
func (n *node) start(q api.Quorum, b api.Ballot, value []byte) {
	n.seen = b.N
	n.ballot = b
	n.own = bytes.Clone(value)
	// It is never refused: the room has looked at q, and b is right.
	n.proposer, _ = propose.New(q, b, slot)
}

// promise: is a ballot that is asked for promised?
func (l *lasting) promise(b api.Ballot) bool {
	l.seen = max(l.seen, b.N)
	if accept.Less(b, l.promised) {
		return false
	}
	l.promised = b
	return true
}

// votes: the node's vote, if it has one.
func (l *lasting) votes() []api.Vote {
	if l.vote.Slot != slot {
		return nil
	}
	return []api.Vote{l.vote}
}

// gather: the proposer is told a promise; the vote to ask for, and true, if that made it ready.
func (n *node) gather(m api.Mail) (api.Vote, bool) {
	if n.ballot != m.Ballot || n.proposer.Ready() {
		return api.Vote{}, false
	}
	n.proposer.Promise(m.From, m.Votes)
	v, err := n.proposer.Propose(slot, n.own)
	return v, err == api.OK
}

// count: the proposer is told who accepted; the node has learned what is chosen by that.
func (n *node) count(m api.Mail) {
	if n.ballot != m.Ballot {
		return
	}
	n.proposer.Accepted(m.From, slot)
	if value, ok := n.proposer.Chosen(slot); ok {
		n.learned = value
		n.knows = true
	}
}

// clone: a vote that shares no memory with another.
func clone(v api.Vote) api.Vote {
	v.Value = bytes.Clone(v.Value)
	return v
}
