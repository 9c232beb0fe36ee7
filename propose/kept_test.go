package propose

import (
	"testing"

	"seawall/api"
)

// Of a slot no more is kept than the vote that binds, and what was proposed; where a call answers an error nothing is.
func TestKeepsNoMore(t *testing.T) {
	p, _ := New(api.Quorum{Kind: 1, Nodes: 5, One: 2, Two: 4}, api.Ballot{N: 9}, 2)
	low, high := api.Ballot{N: 1}, api.Ballot{N: 2}
	p.Promise(0, []api.Vote{{Slot: 2, Ballot: low, Value: []byte("a")}, {Slot: 3, Ballot: low}})
	p.Propose(1, nil)
	p.Propose(3, nil)
	p.Promise(1, []api.Vote{{Slot: 2, Ballot: high, Value: []byte("b")}, {Slot: 4, Ballot: low}, {Slot: 4, Ballot: high}})
	p.Promise(2, []api.Vote{{Slot: 2, Ballot: high, Value: []byte("c")}})
	p.Promise(2, []api.Vote{{Slot: 5, Ballot: high, Value: []byte("d")}})
	p.Propose(1, nil)
	p.Propose(5, make([]byte, api.MaxCommand+1))
	p.Propose(2, make([]byte, api.MaxCommand+1))
	p.Accepted(0, 6)
	if len(p.told) != 2 || string(p.told[2].value) != "c" || p.told[3].ballot != low {
		t.Errorf("of votes there are %v", p.told)
	}
	if len(p.proposed) != 1 || string(p.proposed[2].value) != "c" || p.proposed[2].accepted != 0 {
		t.Errorf("of what was proposed there are %v", p.proposed)
	}
	if p.promised != 0b101 || p.top != 3 || p.prefix != 1 {
		t.Errorf("%b promised, top %d, prefix %d", p.promised, p.top, p.prefix)
	}
}
