package accept

import (
	"strings"

	"seawall/api"
	"seawall/bin"
)

// The keys that an acceptor's store has: of the ballot promised, and, with a slot's bytes behind the mark, of the slot's vote.
const (
	promiseKey = "p"
	slotMark   = "v"
	slotBytes  = 8
)

// slotKey: the key of a slot's vote.
func slotKey(slot uint64) string {
	return slotMark + string(bin.PutFixed(uint32(slot>>32))) + string(bin.PutFixed(uint32(slot)))
}

// keySlot: the slot whose vote's key it is; 0, which is no slot, if it is none's.
func keySlot(key string) uint64 {
	s, ok := strings.CutPrefix(key, slotMark)
	if !ok || len(s) != slotBytes {
		return 0
	}
	// There are just as many bytes as both halves have: neither reading can go wrong.
	high, at, _ := bin.Fixed([]byte(s), 0)
	low, _, _ := bin.Fixed([]byte(s), at)
	return uint64(high)<<32 | uint64(low)
}

// promiseChange: a ballot is promised.
func promiseChange(b api.Ballot) api.Change {
	return api.Change{Key: promiseKey, Value: string(ballotBytes(b))}
}

// voteChange: a slot has a vote.
func voteChange(v api.Vote) api.Change {
	return api.Change{Key: slotKey(v.Slot), Value: string(ballotBytes(v.Ballot)) + string(v.Value)}
}

// goneChange: a slot has no vote.
func goneChange(slot uint64) api.Change {
	return api.Change{Key: slotKey(slot), Gone: true}
}
