package heal_test

import (
	"math"
	"slices"
	"testing"

	"seawall/api"
	"seawall/heal"
)

// The chapter's examples.
func TestExample(t *testing.T) {
	sites := []int{0, 0, 1}
	one := []api.Place{place(0, 0)}
	checkPlan(t, sites, 0b111, 2, one, move(0, 0, 2))
	checkPlan(t, sites, 0b011, 2, one, move(0, 0, 1))
	checkDrop(t, sites, 0b111, 2, []api.Place{place(0, 0, 1, 2)}, move(0, 1, -1))
}

// Of sites: how many, and which numbers.
func TestSites(t *testing.T) {
	for n := range 20 {
		want := api.OK
		if n < 1 || n > 12 {
			want = api.ErrArg
		}
		checkCheck(t, make([]int, n), nil, want)
		checkCheck(t, slices.Repeat([]int{11}, n), nil, want)
	}
	checkCheck(t, nil, nil, api.ErrArg)
	for _, site := range []int{math.MinInt, -2, -1, 12, 13, 1 << 32, math.MaxInt} {
		checkCheck(t, []int{site}, nil, api.ErrArg)
		checkCheck(t, []int{site, 0, 0}, nil, api.ErrArg)
		checkCheck(t, []int{0, site, 0}, nil, api.ErrArg)
		checkCheck(t, []int{0, 0, site}, nil, api.ErrArg)
	}
}

// Of places: how many, and that chunks rise from 0 on.
func TestChunks(t *testing.T) {
	sites := []int{0, 1}
	var l []api.Place
	for chunk := range 256 {
		l = append(l, place(2*chunk, chunk%2))
	}
	checkCheck(t, sites, l, api.OK)
	checkCheck(t, sites, append(l, place(1000)), api.ErrPlace)
	checkApply(t, l, nil, l, api.OK)
	checkApply(t, append(l, place(1000)), nil, nil, api.ErrPlace)

	check := func(want api.Errno, chunks ...int) {
		t.Helper()
		var l, behind []api.Place
		for _, chunk := range chunks {
			l = append(l, place(chunk))
		}
		if want == api.OK {
			behind = l
		}
		checkCheck(t, sites, l, want)
		checkApply(t, l, nil, behind, want)
	}
	check(api.OK)
	check(api.OK, 0)
	check(api.OK, 1)
	check(api.OK, 0, 1, 2)
	check(api.OK, 3, 300, 1<<62, math.MaxInt)
	check(api.ErrPlace, -1)
	check(api.ErrPlace, -1, 0)
	check(api.ErrPlace, math.MinInt)
	check(api.ErrPlace, 0, 0)
	check(api.ErrPlace, 0, 1, 1)
	check(api.ErrPlace, 0, 2, 1)
	check(api.ErrPlace, 1, 0)
	check(api.ErrPlace, 5, 5, 6)
	check(api.ErrPlace, 5, math.MinInt)
	check(api.ErrPlace, math.MaxInt, 0)
}

// Of a place: its nodes rise, and there are such nodes; to Apply all up to 2^62 are nodes.
func TestNodes(t *testing.T) {
	check := func(want, wantApply api.Errno, nodes ...int) {
		t.Helper()
		for _, sites := range [][]int{{0, 0, 0}, {5, 4, 3}} {
			l := []api.Place{place(0, 1), place(1, nodes...), place(2, 0, 2)}
			checkCheck(t, sites, l, want)
			checkCheck(t, sites, l[1:2], want)
			behind := l
			if wantApply != api.OK {
				behind = nil
			}
			checkApply(t, l, nil, behind, wantApply)
		}
	}
	bad := api.ErrPlace
	check(api.OK, api.OK)
	check(api.OK, api.OK, 0)
	check(api.OK, api.OK, 2)
	check(api.OK, api.OK, 0, 2)
	check(api.OK, api.OK, 0, 1, 2)
	check(bad, api.OK, 3)
	check(bad, api.OK, 0, 1, 2, 3)
	check(bad, api.OK, 1, 11, 12, 33, 1<<62-1)
	check(bad, bad, 1<<62)
	check(bad, bad, 0, 1<<62+1)
	check(bad, bad, math.MaxInt)
	check(bad, bad, -1)
	check(bad, bad, -1, 0)
	check(bad, bad, math.MinInt)
	check(bad, bad, 0, 0)
	check(bad, bad, 1, 0)
	check(bad, bad, 0, 2, 1)
	check(bad, bad, 0, 1, 1)
	check(bad, bad, 0, -1)
}

// How many nodes there are says how many a place may have, up to the last one.
func TestLastNode(t *testing.T) {
	for n := 1; n <= 12; n++ {
		checkCheck(t, make([]int, n), []api.Place{place(0, n-1)}, api.OK)
		checkCheck(t, make([]int, n), []api.Place{place(0, n)}, api.ErrPlace)
	}
}

// Where several errors apply: the sites, then the places, then the copies.
func TestErrorsInOrder(t *testing.T) {
	good, bad := []api.Place{place(0, 0)}, []api.Place{place(0, 9)}
	checkCheck(t, nil, bad, api.ErrArg)
	checkCheck(t, []int{-1}, bad, api.ErrArg)
	check := func(sites []int, copies int, places []api.Place, want api.Errno) {
		t.Helper()
		checkMoves(t, "Plan", heal.Plan, sites, 1, copies, places, nil, want)
		checkMoves(t, "Drop", heal.Drop, sites, 1, copies, places, nil, want)
	}
	for _, copies := range []int{math.MinInt, -1, 0, 13, 14, math.MaxInt} {
		check(nil, copies, good, api.ErrArg)
		check([]int{12}, copies, bad, api.ErrArg)
		check([]int{0}, copies, bad, api.ErrPlace)
		check([]int{0}, copies, good, api.ErrArg)
		check([]int{0}, copies, nil, api.ErrArg)
	}
	for copies := 1; copies <= 12; copies++ {
		check([]int{0}, copies, bad, api.ErrPlace)
		check([]int{0}, copies, good, api.OK)
		check([]int{0}, copies, nil, api.OK)
	}
}

// Copies are made till there are as many as there should be, or no node is left.
func TestHowMany(t *testing.T) {
	sites := make([]int, 12)
	for copies := 1; copies <= 12; copies++ {
		var made, gone []api.Move
		for node := 1; node < copies; node++ {
			made = append(made, move(4, 0, node))
		}
		for node := 11; node >= copies; node-- {
			gone = append(gone, move(4, node, -1))
		}
		checkPlan(t, sites, 0xfff, copies, []api.Place{place(4, 0)}, made...)
		checkPlan(t, sites, 0x00f, copies, []api.Place{place(4, 0)}, made[:min(copies-1, 3)]...)
		checkDrop(t, sites, 0xfff, copies, []api.Place{place(4, 0, 1, 2, 3, 4, 5, 6, 7, 8, 9, 10, 11)}, gone...)
		checkDrop(t, sites, 0xfff, copies, []api.Place{place(4, 0)})
	}
}

// A chunk that is live nowhere cannot be made anew, nor does a copy of it go.
func TestLiveNowhere(t *testing.T) {
	sites := []int{0, 0, 1, 1}
	l := []api.Place{place(0), place(1, 0), place(2, 0, 1), place(3, 0, 1, 2)}
	checkPlan(t, sites, 0, 4, l)
	checkDrop(t, sites, 0, 1, l)
	checkPlan(t, sites, 0b1000, 4, l)
	checkDrop(t, sites, 0b1000, 1, l)
	checkPlan(t, sites, 0b1100, 2, l, move(3, 2, 3))
	checkDrop(t, sites, 0b0110, 1, l, move(3, 1, -1)) // of different sites, each live on one there: the load says it
}

// Bits of nodes that there are not say nothing.
func TestOtherBits(t *testing.T) {
	sites := []int{0, 1}
	for bit := 2; bit < 32; bit++ {
		checkPlan(t, sites, 1|1<<bit, 3, []api.Place{place(0, 0)})
		checkPlan(t, sites, 3|1<<bit, 3, []api.Place{place(0, 0)}, move(0, 0, 1))
		checkPlan(t, sites, 1<<bit, 3, []api.Place{place(0, 0)})
		checkDrop(t, sites, 3|1<<bit, 1, []api.Place{place(0, 0, 1)}, move(0, 1, -1))
	}
	checkPlan(t, make([]int, 12), math.MaxUint32, 3, []api.Place{place(0, 0)}, move(0, 0, 1), move(0, 0, 2))
	checkPlan(t, make([]int, 12), 0xfffff001, 3, []api.Place{place(0, 0)})
}

// To where: the site on which it is live on the fewest nodes, then the least load, then the least node.
func TestTo(t *testing.T) {
	sites := []int{0, 0, 1, 1, 2, 2}
	all := uint32(0b111111)
	l := []api.Place{place(0, 0), place(1, 2, 4), place(2, 2, 3, 4, 5)}
	// 2 and 4 have the load 2, 3 and 5 the load 1, so 3 is ahead of 5, and that ahead of 4; 1 has no load.
	checkPlan(t, sites, all, 3, l[:1:1], move(0, 0, 2), move(0, 0, 4))
	checkPlan(t, sites, all, 3, l, move(0, 0, 3), move(0, 0, 5), move(1, 2, 1))
	// A site beats any load.
	checkPlan(t, []int{0, 0, 1}, 0b111, 2, []api.Place{place(0, 2), place(1, 2), place(2, 2), place(3, 0)},
		move(0, 2, 1), move(1, 2, 0), move(2, 2, 1), move(3, 0, 2))
	// Nodes that are not up do not count for their site.
	checkPlan(t, []int{0, 1, 1, 1, 0}, 0b11001, 2, []api.Place{place(0, 0, 1, 2), place(1, 3)}, move(0, 0, 3), move(1, 3, 4))
	// Where each site has one, the second ones are spread, too.
	checkPlan(t, sites, all, 5, []api.Place{place(9, 1, 2, 5)}, move(9, 1, 0), move(9, 2, 3))
	checkPlan(t, []int{0, 0, 0, 1, 1}, 0b11111, 4, []api.Place{place(9, 1)},
		move(9, 1, 3), move(9, 1, 0), move(9, 3, 4))
}

// From where: the least node of the same site, else the least one, of those that are up; copies that were made count, too.
func TestFrom(t *testing.T) {
	sites := []int{0, 1, 1, 1, 0}
	checkPlan(t, sites, 0b11111, 4, []api.Place{place(0, 0, 2, 4)}, move(0, 2, 1))
	checkPlan(t, sites, 0b11111, 5, []api.Place{place(0, 0, 2, 4)}, move(0, 2, 1), move(0, 1, 3))
	checkPlan(t, sites, 0b11110, 4, []api.Place{place(0, 0, 2, 4)}, move(0, 2, 1), move(0, 1, 3))
	checkPlan(t, sites, 0b11011, 3, []api.Place{place(0, 0, 2)}, move(0, 0, 1), move(0, 1, 3))
	checkPlan(t, sites, 0b11010, 3, []api.Place{place(0, 0, 2, 4)}, move(0, 4, 1), move(0, 1, 3))
	checkPlan(t, []int{0, 1, 2}, 0b111, 3, []api.Place{place(0, 1)}, move(0, 1, 0), move(0, 0, 2))
}

// Loads go on from chunk to chunk, and count copies on nodes of whatever chunk, ahead and behind.
func TestLoads(t *testing.T) {
	sites := []int{0, 1, 1, 1}
	var l []api.Place
	for chunk := range 6 {
		l = append(l, place(chunk, 0))
	}
	checkPlan(t, sites, 0b1111, 2, l,
		move(0, 0, 1), move(1, 0, 2), move(2, 0, 3), move(3, 0, 1), move(4, 0, 2), move(5, 0, 3))
	l = append(l, place(6, 1, 2), place(7, 1), place(8, 1, 3))
	checkPlan(t, sites, 0b1111, 2, l,
		move(0, 0, 2), move(1, 0, 3), move(2, 0, 2), move(3, 0, 3), move(4, 0, 1), move(5, 0, 2), move(7, 1, 0))
	// Each copy is one, not each chunk that a node has got in this plan.
	checkPlan(t, sites, 0b0111, 2, []api.Place{place(0, 0), place(1, 1, 3), place(2, 1, 3)},
		move(0, 0, 2), move(1, 1, 0), move(2, 1, 0))
}

// Which one goes: of the site on which it is live on the most nodes, of the greatest load, the greatest node.
func TestDrop(t *testing.T) {
	sites := []int{0, 0, 1, 1, 2}
	checkDrop(t, sites, 0b11111, 3, []api.Place{place(0, 0, 1, 2, 3, 4)}, move(0, 3, -1), move(0, 1, -1))
	checkDrop(t, sites, 0b11111, 1, []api.Place{place(0, 0, 1, 2, 3, 4)},
		move(0, 3, -1), move(0, 1, -1), move(0, 4, -1), move(0, 2, -1))
	// Load: 0 and 2 have two each, so they go ahead of 1 and 3, and 2 ahead of 0.
	l := []api.Place{place(0, 0, 1, 2, 3), place(1, 0, 2)}
	checkDrop(t, sites, 0b11111, 2, l, move(0, 2, -1), move(0, 0, -1))
	// A site beats any load.
	checkDrop(t, sites, 0b11111, 2, []api.Place{place(0, 0, 1, 4), place(1, 4), place(2, 4)}, move(0, 1, -1))
	// Nodes that are not up: neither do they go, nor count for their site, nor as copies.
	checkDrop(t, sites, 0b11101, 2, []api.Place{place(0, 0, 1, 2, 3)}, move(0, 3, -1))
	checkDrop(t, sites, 0b10101, 3, []api.Place{place(0, 0, 1, 2, 3, 4)})
	checkDrop(t, []int{0, 0, 1, 1, 1}, 0b01101, 2, []api.Place{place(0, 0, 1, 2, 3, 4)}, move(0, 3, -1))
	checkDrop(t, []int{0, 0, 1, 1}, 0b1011, 1, []api.Place{place(0, 1, 2, 3), place(1, 1)}, move(0, 1, -1))
}

// What goes is a load no more, for the chunks behind.
func TestDropLoads(t *testing.T) {
	sites := []int{0, 0, 0}
	l := []api.Place{place(0, 0, 1), place(1, 0, 1), place(2, 0, 1), place(3, 0, 1)}
	checkDrop(t, sites, 0b111, 1, l, move(0, 1, -1), move(1, 0, -1), move(2, 1, -1), move(3, 0, -1))
	l = append(l, place(4, 1, 2), place(5, 2))
	checkDrop(t, sites, 0b111, 1, l,
		move(0, 1, -1), move(1, 1, -1), move(2, 0, -1), move(3, 1, -1), move(4, 2, -1))
}

// Plan takes nothing away where there are too many, Drop makes nothing where there are too few.
func TestEnough(t *testing.T) {
	sites := []int{0, 1, 0, 1}
	l := []api.Place{place(0, 0, 1), place(1, 0, 1, 2), place(2, 3)}
	checkPlan(t, sites, 0b1111, 2, l, move(2, 3, 2))
	checkDrop(t, sites, 0b1111, 2, l, move(1, 0, -1))
	checkPlan(t, sites, 0b1111, 1, l)
	checkDrop(t, sites, 0b1111, 3, l)
}

// All sizes at once: as many places as may be, on all nodes.
func TestMany(t *testing.T) {
	sites := []int{0, 1, 2, 3, 4, 5, 6, 7, 8, 9, 10, 11}
	var l []api.Place
	for chunk := range 256 {
		l = append(l, place(1<<40+chunk, chunk%12))
	}
	made := plans(t, heal.Plan, sites, 0xfff, 12, l)
	now := behind(t, l, made)
	if len(made) != 256*11 || slices.ContainsFunc(now, func(p api.Place) bool { return len(p.Nodes) != 12 }) {
		t.Errorf("%d moves, behind which there are %v", len(made), now)
	}
	gone := plans(t, heal.Drop, sites, 0xfff, 1, now)
	now = behind(t, now, gone)
	if len(gone) != 256*11 || slices.ContainsFunc(now, func(p api.Place) bool { return len(p.Nodes) != 1 }) {
		t.Errorf("%d moves, behind which there are %v", len(gone), now)
	}
}
