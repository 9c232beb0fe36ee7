package accept

import (
	"seawall/api"
	"seawall/bin"
)

// Right: may it be a ballot?
func Right(b api.Ballot) bool {
	return b.N > 0 && b.Node >= 0 && b.Node < api.MaxNodes
}

// Less: is it ahead of another one?
func Less(a api.Ballot, b api.Ballot) bool {
	if a.N == b.N {
		return a.Node < b.Node
	}
	return a.N < b.N
}

// ballotBytes: a right ballot's bytes.
func ballotBytes(b api.Ballot) []byte {
	return append(bin.PutUint(b.N), bin.PutUint(uint64(b.Node))...)
}

// readBallot: the right ballot that a text begins with, and what stands behind it; false, if there is none.
func readBallot(s string) (api.Ballot, string, bool) {
	r := bin.New([]byte(s))
	n := r.Uint()
	node := r.Uint()
	// Held against the limit as a number of 64 bits: an int may have no room for it.
	if r.Err() != api.OK || node >= api.MaxNodes {
		return api.Ballot{}, "", false
	}
	b := api.Ballot{N: n, Node: int(node)}
	if !Right(b) {
		return api.Ballot{}, "", false
	}
	return b, s[len(s)-r.Left():], true
}
