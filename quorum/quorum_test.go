package quorum_test

import (
	"math"
	"slices"
	"testing"

	"seawall/api"
	"seawall/quorum"
)

const (
	lowest  = math.MinInt
	highest = math.MaxInt
)

func counts(nodes, one, two int) api.Quorum {
	return api.Quorum{Kind: 1, Nodes: nodes, One: one, Two: two}
}

func rows(nodes, one, two int) api.Quorum {
	return api.Quorum{Kind: 2, Nodes: nodes, One: one, Two: two}
}

func sites(l ...int) api.Quorum {
	return api.Quorum{Kind: 3, Nodes: len(l), Sites: l}
}

// same: are two lists the same? (One that is nil and one that is empty are.)
func same(a, b []uint32) bool {
	return slices.Equal(a, b)
}

func TestRight(t *testing.T) {
	tests := []struct {
		name string
		q    api.Quorum
		want api.Errno
	}{
		{"of nothing", api.Quorum{}, api.ErrArg},
		{"kind 0", api.Quorum{Nodes: 1, One: 1, Two: 1, Sites: []int{0}}, api.ErrArg},
		{"kind -1", api.Quorum{Kind: -1, Nodes: 1, One: 1, Two: 1, Sites: []int{0}}, api.ErrArg},
		{"kind 4", api.Quorum{Kind: 4, Nodes: 1, One: 1, Two: 1, Sites: []int{0}}, api.ErrArg},
		{"lowest kind", api.Quorum{Kind: lowest, Nodes: 1, One: 1, Two: 1, Sites: []int{0}}, api.ErrArg},
		{"highest kind", api.Quorum{Kind: highest, Nodes: 1, One: 1, Two: 1, Sites: []int{0}}, api.ErrArg},

		{"counts, one node", counts(1, 1, 1), api.OK},
		{"counts, 12 nodes", counts(12, 7, 6), api.OK},
		{"counts, all and one", counts(12, 12, 1), api.OK},
		{"counts, one and all", counts(12, 1, 12), api.OK},
		{"counts, all and all", counts(12, 12, 12), api.OK},
		{"counts, the chapter's", counts(4, 3, 2), api.OK},
		{"counts, the chapter's that need not meet", counts(4, 3, 1), api.ErrMeet},
		{"counts, just all together", counts(12, 6, 6), api.ErrMeet},
		{"counts, one each", counts(12, 1, 1), api.ErrMeet},
		{"counts, two nodes that need not meet", counts(2, 1, 1), api.ErrMeet},
		{"counts, no nodes", counts(0, 1, 1), api.ErrArg},
		{"counts, -1 nodes", counts(-1, 1, 1), api.ErrArg},
		{"counts, 13 nodes", counts(13, 13, 13), api.ErrArg},
		{"counts, 13 nodes that need not meet", counts(13, 1, 1), api.ErrArg},
		{"counts, lowest nodes", counts(lowest, 1, 1), api.ErrArg},
		{"counts, highest nodes", counts(highest, highest, highest), api.ErrArg},
		{"counts, One 0", counts(3, 0, 3), api.ErrArg},
		{"counts, One 0, and need not meet", counts(3, 0, 1), api.ErrArg},
		{"counts, One -1", counts(3, -1, 3), api.ErrArg},
		{"counts, One above", counts(3, 4, 3), api.ErrArg},
		{"counts, One highest", counts(3, highest, 3), api.ErrArg},
		{"counts, One lowest", counts(3, lowest, 3), api.ErrArg},
		{"counts, Two 0", counts(3, 3, 0), api.ErrArg},
		{"counts, Two 0, and need not meet", counts(3, 1, 0), api.ErrArg},
		{"counts, Two -1", counts(3, 3, -1), api.ErrArg},
		{"counts, Two above", counts(3, 3, 4), api.ErrArg},
		{"counts, Two above, One too low", counts(3, 0, 4), api.ErrArg},
		{"counts, Two highest", counts(3, 3, highest), api.ErrArg},
		{"counts, Two lowest", counts(3, 3, lowest), api.ErrArg},
		{"counts, both 0", counts(3, 0, 0), api.ErrArg},

		{"rows, one node", rows(1, 1, 1), api.OK},
		{"rows, the chapter's", rows(6, 2, 3), api.OK},
		{"rows, the other way", rows(6, 3, 2), api.OK},
		{"rows, one row", rows(12, 1, 12), api.OK},
		{"rows, one column", rows(12, 12, 1), api.OK},
		{"rows, too few", rows(5, 2, 2), api.ErrArg},
		{"rows, too many", rows(6, 3, 3), api.ErrArg},
		{"rows, as many as together", rows(5, 2, 3), api.ErrArg},
		{"rows, no nodes", rows(0, 0, 0), api.ErrArg},
		{"rows, 13 nodes", rows(13, 13, 1), api.ErrArg},
		{"rows, both below 0", rows(6, -2, -3), api.ErrArg},
		{"rows, One 0", rows(6, 0, 6), api.ErrArg},
		{"rows, Two 0", rows(6, 6, 0), api.ErrArg},
		{"rows, a product that wraps round by One", rows(4, 1<<62+1, 4), api.ErrArg},
		{"rows, a product that wraps round by Two", rows(4, 4, 1<<62+1), api.ErrArg},
		{"rows, a product of two odd ones that wraps round", rows(1, -1, -1), api.ErrArg},

		{"sites, one node", sites(0), api.OK},
		{"sites, one node of the last site", sites(11), api.OK},
		{"sites, the chapter's", sites(0, 0, 1), api.OK},
		{"sites, 12 nodes of one", sites(make([]int, 12)...), api.OK},
		{"sites, 12 nodes of 12", sites(0, 1, 2, 3, 4, 5, 6, 7, 8, 9, 10, 11), api.OK},
		{"sites, no nodes", sites(), api.ErrArg},
		{"sites, 13 nodes", sites(make([]int, 13)...), api.ErrArg},
		{"sites, none told", api.Quorum{Kind: 3, Nodes: 1}, api.ErrArg},
		{"sites, none told of 12", api.Quorum{Kind: 3, Nodes: 12, Sites: []int{}}, api.ErrArg},
		{"sites, one told of two", api.Quorum{Kind: 3, Nodes: 2, Sites: []int{0}}, api.ErrArg},
		{"sites, two told of one", api.Quorum{Kind: 3, Nodes: 1, Sites: []int{0, 0}}, api.ErrArg},
		{"sites, -1 nodes", api.Quorum{Kind: 3, Nodes: -1}, api.ErrArg},
		{"sites, -1 the first", sites(-1, 0, 0), api.ErrArg},
		{"sites, -1 the last", sites(0, 0, -1), api.ErrArg},
		{"sites, 12 the first", sites(12, 0, 0), api.ErrArg},
		{"sites, 12 the last", sites(0, 0, 12), api.ErrArg},
		{"sites, the lowest", sites(lowest), api.ErrArg},
		{"sites, the highest", sites(highest), api.ErrArg},

		{"counts, with sites of no sense", api.Quorum{Kind: 1, Nodes: 3, One: 2, Two: 2, Sites: []int{-1}}, api.OK},
		{"rows, with sites of no sense", api.Quorum{Kind: 2, Nodes: 3, One: 1, Two: 3, Sites: []int{99, 99, 99}}, api.OK},
		{"sites, with One and Two of no sense", api.Quorum{Kind: 3, Nodes: 1, One: -1, Two: highest, Sites: []int{0}}, api.OK},
	}
	for _, test := range tests {
		if err := quorum.Right(test.q); err != test.want {
			t.Errorf("%s: %d, not %d", test.name, err, test.want)
		}
	}
}

// The chapter's examples.
func TestExamples(t *testing.T) {
	q := counts(4, 3, 2)
	if !quorum.First(q, 0b0111) || !quorum.Second(q, 0b0011) {
		t.Error("First or Second of counts")
	}
	if l := quorum.Least(q, true); !same(l, []uint32{3, 5, 6, 9, 10, 12}) {
		t.Errorf("Least of counts: %v", l)
	}
	if err := quorum.Reach(q, 1); err != api.OK {
		t.Errorf("Reach 1: %d", err)
	}
	if err := quorum.Reach(q, 2); err != api.ErrNone {
		t.Errorf("Reach 2: %d", err)
	}
	q = rows(6, 2, 3)
	if !quorum.First(q, 0b000111) || !quorum.Second(q, 0b001001) {
		t.Error("First or Second of rows")
	}
	q = sites(0, 0, 1)
	if !quorum.First(q, 0b101) || !quorum.Second(q, 0b100) {
		t.Error("First or Second of sites")
	}
}

func TestFirstAndSecond(t *testing.T) {
	tests := []struct {
		q             api.Quorum
		set           uint32
		first, second bool
	}{
		{counts(4, 3, 2), 0, false, false},
		{counts(4, 3, 2), 0b0001, false, false},
		{counts(4, 3, 2), 0b1001, false, true},
		{counts(4, 3, 2), 0b1011, true, true},
		{counts(4, 3, 2), 0b1111, true, true},
		{counts(4, 2, 3), 0b1001, true, false},
		{counts(4, 2, 3), 0b1101, true, true},
		{counts(12, 12, 1), 0xffe, false, true},
		{counts(12, 12, 1), 0xfff, true, true},

		// Two rows of three, the nodes 0 1 2 and 3 4 5.
		{rows(6, 2, 3), 0b000111, true, false},
		{rows(6, 2, 3), 0b111000, true, false},
		{rows(6, 2, 3), 0b001110, false, false},
		{rows(6, 2, 3), 0b001001, false, true},
		{rows(6, 2, 3), 0b100100, false, true},
		{rows(6, 2, 3), 0b001010, false, false},
		{rows(6, 2, 3), 0b001111, true, true},
		{rows(6, 2, 3), 0b101010, false, false},
		{rows(6, 2, 3), 0b110110, false, true},
		// Three rows of two.
		{rows(6, 3, 2), 0b000011, true, false},
		{rows(6, 3, 2), 0b000110, false, false},
		{rows(6, 3, 2), 0b010101, false, true},
		{rows(6, 3, 2), 0b101010, false, true},
		{rows(6, 3, 2), 0b000111, true, false},
		// One row, and one column.
		{rows(3, 1, 3), 0b001, false, true},
		{rows(3, 1, 3), 0b111, true, true},
		{rows(3, 3, 1), 0b100, true, false},
		{rows(3, 3, 1), 0b111, true, true},

		{sites(0, 0, 1), 0b001, false, false},
		{sites(0, 0, 1), 0b011, false, true},
		{sites(0, 0, 1), 0b100, false, true},
		{sites(0, 0, 1), 0b110, true, true},
		{sites(11, 3, 11, 3, 0), 0b10000, false, true},
		{sites(11, 3, 11, 3, 0), 0b00101, false, true},
		{sites(11, 3, 11, 3, 0), 0b01010, false, true},
		{sites(11, 3, 11, 3, 0), 0b00011, false, false},
		{sites(11, 3, 11, 3, 0), 0b11001, true, true},
		{sites(7, 7), 0b01, true, false},
		{sites(7, 7), 0b11, true, true},
	}
	for _, test := range tests {
		// Bits at Nodes and above play no part.
		for _, above := range []uint32{0, 1, 2, 0xaaaaaaaa, 0xffffffff} {
			set := test.set | above<<test.q.Nodes
			if quorum.First(test.q, set) != test.first {
				t.Errorf("First(%v, %b) is not %t", test.q, set, test.first)
			}
			if quorum.Second(test.q, set) != test.second {
				t.Errorf("Second(%v, %b) is not %t", test.q, set, test.second)
			}
			if quorum.Can(test.q, set) != (test.first && test.second) {
				t.Errorf("Can(%v, %b) is %t", test.q, set, test.first && !test.second)
			}
		}
	}
}

func TestLeast(t *testing.T) {
	tests := []struct {
		q             api.Quorum
		first, second []uint32
	}{
		{counts(1, 1, 1), []uint32{1}, []uint32{1}},
		{counts(4, 3, 2), []uint32{7, 11, 13, 14}, []uint32{3, 5, 6, 9, 10, 12}},
		{counts(3, 1, 3), []uint32{1, 2, 4}, []uint32{7}},
		{rows(6, 2, 3), []uint32{0b000111, 0b111000}, []uint32{0b001001, 0b010010, 0b100100}},
		{rows(6, 3, 2), []uint32{0b000011, 0b001100, 0b110000}, []uint32{0b010101, 0b101010}},
		{rows(3, 1, 3), []uint32{7}, []uint32{1, 2, 4}},
		{sites(0, 0, 1), []uint32{0b101, 0b110}, []uint32{0b011, 0b100}},
		// By the sets' numbers, not by the sites'.
		{sites(1, 0, 0), []uint32{0b011, 0b101}, []uint32{0b001, 0b110}},
		{sites(11, 3, 11, 3, 0), []uint32{0b10011, 0b10110, 0b11001, 0b11100}, []uint32{0b00101, 0b01010, 0b10000}},
		{sites(5, 5, 5), []uint32{1, 2, 4}, []uint32{7}},
	}
	for _, test := range tests {
		if l := quorum.Least(test.q, false); !same(l, test.first) {
			t.Errorf("Least(%v, false): %v, not %v", test.q, l, test.first)
		}
		if l := quorum.Least(test.q, true); !same(l, test.second) {
			t.Errorf("Least(%v, true): %v, not %v", test.q, l, test.second)
		}
	}
}

func TestReach(t *testing.T) {
	tests := []struct {
		q    api.Quorum
		more int
		want api.Errno
	}{
		{counts(4, 3, 2), 0, api.OK},
		{counts(4, 3, 2), 1, api.OK},
		{counts(4, 3, 2), 2, api.ErrNone},
		{counts(4, 3, 2), 3, api.ErrNone},
		{counts(4, 3, 2), 4, api.ErrNone},
		{counts(4, 3, 2), 5, api.ErrNone},
		{counts(4, 3, 2), highest, api.ErrNone},
		{counts(4, 3, 2), -1, api.ErrArg},
		{counts(4, 3, 2), lowest, api.ErrArg},
		{counts(12, 7, 6), 5, api.OK},
		{counts(12, 7, 6), 6, api.ErrNone},
		{counts(12, 6, 7), 5, api.OK},
		{counts(12, 6, 7), 6, api.ErrNone},
		{counts(1, 1, 1), 0, api.OK},
		{counts(1, 1, 1), 1, api.ErrNone},
		{counts(12, 12, 1), 1, api.ErrNone},
		// One gone leaves one row and two columns whole; of two it may be both rows, or of three all columns.
		{rows(6, 2, 3), 0, api.OK},
		{rows(6, 2, 3), 1, api.OK},
		{rows(6, 2, 3), 2, api.ErrNone},
		{rows(12, 3, 4), 2, api.OK},
		{rows(12, 3, 4), 3, api.ErrNone},
		{rows(12, 4, 3), 2, api.OK},
		{rows(12, 4, 3), 3, api.ErrNone},
		{rows(3, 1, 3), 1, api.ErrNone},
		{sites(0, 0, 1), 1, api.ErrNone},
		{sites(0, 0, 1, 1), 1, api.OK},
		{sites(0, 0, 1, 1), 2, api.ErrNone},
		{sites(0, 0, 1, 1, 2, 2, 2), 1, api.OK},
		{sites(0, 0, 0, 1, 1, 1, 2, 2, 2), 2, api.OK},
		{sites(0, 0, 0, 1, 1, 1, 2, 2, 2), 3, api.ErrNone},
		{sites(4, 4), 0, api.OK},
		{sites(4, 4), 1, api.ErrNone},
		{counts(4, 3, 1), 0, api.ErrMeet},
		{counts(4, 3, 1), -1, api.ErrMeet},
		{counts(4, 3, 1), 9, api.ErrMeet},
		{counts(4, 0, 1), 0, api.ErrArg},
		{api.Quorum{}, 0, api.ErrArg},
		{api.Quorum{}, -1, api.ErrArg},
	}
	for _, test := range tests {
		if err := quorum.Reach(test.q, test.more); err != test.want {
			t.Errorf("Reach(%v, %d): %d, not %d", test.q, test.more, err, test.want)
		}
	}
}

// Of quorums that are not Right no set is one, and there is none.
func TestNotRight(t *testing.T) {
	for _, q := range []api.Quorum{
		{}, counts(0, 0, 0), counts(13, 7, 7), counts(4, 2, 2), counts(4, 0, 4), counts(4, 4, 0), counts(4, 5, 1), counts(4, -1, -1),
		rows(5, 2, 2), rows(6, 0, 0), rows(6, -2, -3), rows(0, 0, 0), rows(13, 1, 13), rows(4, 1<<62+1, 4),
		sites(), sites(-1), sites(12), sites(0, 12), sites(make([]int, 13)...), sites(make([]int, 33)...), sites(make([]int, 64)...),
		{Kind: 3, Nodes: 3, Sites: []int{0}}, {Kind: 3, Nodes: 3}, {Kind: 3, Nodes: 1, Sites: []int{0, 0}},
		{Kind: 4, Nodes: 1, One: 1, Two: 1, Sites: []int{0}}, {Kind: -3, Nodes: 1, One: 1, Two: 1, Sites: []int{0}},
		{Kind: 1, Nodes: highest, One: highest, Two: highest}, {Kind: 2, Nodes: lowest, One: lowest, Two: 1}, {Kind: 3, Nodes: lowest},
	} {
		right := quorum.Right(q)
		if right == api.OK {
			t.Errorf("%v is Right", q)
		}
		for _, set := range []uint32{0, 1, 3, 0xfff, 0xffffffff} {
			if quorum.First(q, set) || quorum.Second(q, set) || quorum.Can(q, set) {
				t.Errorf("%v: %b is a quorum", q, set)
			}
		}
		if l := append(quorum.Least(q, false), quorum.Least(q, true)...); len(l) > 0 {
			t.Errorf("%v: Least: %v", q, l)
		}
		for _, more := range []int{lowest, -1, 0, 1, 13, highest} {
			if err := quorum.Reach(q, more); err != right {
				t.Errorf("Reach(%v, %d): %d, not %d", q, more, err, right)
			}
		}
	}
}

// What is handed in stays as it was, and what came out is nobody else's.
func TestShareNothing(t *testing.T) {
	l := []int{3, 1, 3, 0, 9, 9}
	for _, q := range []api.Quorum{sites(l[:4]...), counts(4, 3, 2), rows(4, 2, 2)} {
		for _, second := range []bool{false, true} {
			was := quorum.Least(q, second)
			spoilt := quorum.Least(q, second)
			spoilt = spoilt[:cap(spoilt)]
			for i := range spoilt {
				spoilt[i] = 77
			}
			if now := quorum.Least(q, second); !same(now, was) {
				t.Errorf("Least(%v, %t): %v, then %v", q, second, was, now)
			}
		}
		quorum.Right(q)
		quorum.Can(q, 15)
		quorum.Reach(q, 1)
	}
	if !slices.Equal(l, []int{3, 1, 3, 0, 9, 9}) {
		t.Errorf("Sites is %v now", l)
	}
}
