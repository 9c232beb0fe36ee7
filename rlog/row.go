package rlog

import (
	"bytes"
	"cmp"
	"slices"

	"seawall/api"
)

// row is entries by rising slots, at most one of each.
type row []api.Entry

// find: the place of a slot's entry, and true; the one where it would stand, and false, if it isn't there.
func (r row) find(slot uint64) (int, bool) {
	return slices.BinarySearchFunc(r, slot, func(e api.Entry, slot uint64) int {
		return cmp.Compare(e.Slot, slot)
	})
}

// from: the entries whose slots are not below that one.
func (r row) from(slot uint64) row {
	at, _ := r.find(slot)
	return r[at:]
}

// run: the entries from that slot's on, as far as they stand one behind the other without a gap, at most so many.
func (r row) run(slot uint64, most int) row {
	l := r.from(slot)
	n := 0
	for n < min(most, len(l)) && l[n].Slot == slot+uint64(n) {
		n++
	}
	return l[:n]
}

// drop: the entries up to a slot go; how many.
func (r *row) drop(upto uint64) int {
	n, there := r.find(upto)
	if there {
		n++
	}
	*r = slices.Delete(*r, 0, n)
	return n
}

// clone: an entry that shares no memory with another.
func clone(e api.Entry) api.Entry {
	e.Value = bytes.Clone(e.Value)
	return e
}
