package quorum

import (
	"math/bits"
	"slices"

	"seawall/api"
)

// partsOf: the nodes of each row, in the second phase of each column; in both phases of each site that some node has.
func partsOf(q api.Quorum, second bool) []uint32 {
	var l [api.MaxNodes]uint32
	for node := range q.Nodes {
		l[partOf(q, second, node)] |= 1 << node
	}
	return slices.DeleteFunc(l[:], func(part uint32) bool { return part == 0 })
}

// partOf: the number of the row, column or site in which a node stands.
func partOf(q api.Quorum, second bool, node int) int {
	switch {
	case q.Kind == bySites:
		return q.Sites[node]
	case second:
		return node % q.Two
	}
	return node / q.Two
}

// hasWhole: has the set all nodes of some part?
func hasWhole(set uint32, l []uint32) bool {
	for _, part := range l {
		if set&part == part {
			return true
		}
	}
	return false
}

// meetsEach: has the set a node of each part?
func meetsEach(set uint32, l []uint32) bool {
	for _, part := range l {
		if set&part == 0 {
			return false
		}
	}
	return true
}

// oneOfEach: the sets of one node of each part.
func oneOfEach(l []uint32) []uint32 {
	sets := []uint32{0}
	for _, part := range l {
		var longer []uint32
		for _, set := range sets {
			for rest := part; rest != 0; rest &= rest - 1 {
				longer = append(longer, set|rest&-rest)
			}
		}
		sets = longer
	}
	return sets
}

// ofCount: the sets of so many nodes.
func ofCount(q api.Quorum, n int) []uint32 {
	var l []uint32
	for set := range all(q) + 1 {
		if bits.OnesCount32(set) == n {
			l = append(l, set)
		}
	}
	return l
}

// all: the set of all nodes.
func all(q api.Quorum) uint32 {
	return 1<<q.Nodes - 1
}

// count: how many nodes a quorum of that phase has.
func count(q api.Quorum, second bool) int {
	if second {
		return q.Two
	}
	return q.One
}
