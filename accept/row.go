package accept

import (
	"bytes"
	"cmp"
	"slices"

	"seawall/api"
)

// row is votes by rising slots, at most one of each.
type row []api.Vote

// isVote: may it be a vote?
func isVote(v api.Vote) bool {
	return Right(v.Ballot) && v.Slot > 0 && len(v.Value) <= api.MaxCommand
}

// clone: a vote that shares nothing with another one.
func clone(v api.Vote) api.Vote {
	v.Value = bytes.Clone(v.Value)
	return v
}

// find: the place of the first vote whose slot is not below that one; behind the last, if there is none.
func (r row) find(slot uint64) int {
	at, _ := slices.BinarySearchFunc(r, slot, func(v api.Vote, slot uint64) int {
		return cmp.Compare(v.Slot, slot)
	})
	return at
}

// put: the vote of its slot, in the place of another one, if there is one.
func (r *row) put(v api.Vote) {
	at := r.find(v.Slot)
	l := *r
	if at == len(l) || l[at].Slot != v.Slot {
		l = append(l, api.Vote{})
		copy(l[at+1:], l[at:])
	}
	l[at] = v
	*r = l
}

// lowest: the votes of the lowest slots up to one of them, as many as may be.
func (r row) lowest(most int, upto uint64) []api.Vote {
	l := r[:min(len(r), most)]
	for i, v := range l {
		if v.Slot > upto {
			return l[:i]
		}
	}
	return l
}

// drop: the first votes go.
func (r *row) drop(n int) {
	*r = slices.Delete(*r, 0, n)
}
