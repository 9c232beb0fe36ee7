package heal_test

import (
	"math"
	"slices"
	"testing"

	"seawall/api"
)

const end = 1 << 62 // no node

// What comes, what goes, and where it stands.
func TestApply(t *testing.T) {
	l := []api.Place{place(0, 3), place(2, 1, 4), place(7, 0, 5, end-1)}
	check := func(chunk, from, to int, want ...int) {
		t.Helper()
		now := slices.Clone(l)
		for i := range now {
			if now[i].Chunk == chunk {
				now[i].Nodes = want
			}
		}
		checkApply(t, l, []api.Move{move(chunk, from, to)}, now, api.OK)
	}
	check(0, 3, 0, 0, 3)
	check(0, 3, 2, 2, 3)
	check(0, 3, 4, 3, 4)
	check(0, 3, end-1, 3, end-1)
	check(0, 3, -1)
	check(2, 1, 0, 0, 1, 4)
	check(2, 4, 0, 0, 1, 4)
	check(2, 1, 3, 1, 3, 4)
	check(2, 4, 5, 1, 4, 5)
	check(2, 1, -1, 4)
	check(2, 4, -1, 1)
	check(7, end-1, 1, 0, 1, 5, end-1)
	check(7, 5, 4, 0, 4, 5, end-1)
	check(7, 5, end-2, 0, 5, end-2, end-1)
	check(7, 0, -1, 5, end-1)
	check(7, 5, -1, 0, end-1)
	check(7, end-1, -1, 0, 5)
}

// Moves that may not be.
func TestApplyErrors(t *testing.T) {
	l := []api.Place{place(1, 0, 3), place(4), place(6, 2, end-1)}
	check := func(m api.Move) {
		t.Helper()
		good := move(1, 0, 9)
		checkApply(t, l, []api.Move{m}, nil, api.ErrPlace)
		checkApply(t, l, []api.Move{good, m}, nil, api.ErrPlace)
		checkApply(t, l, []api.Move{m, good}, nil, api.ErrPlace)
	}
	for _, chunk := range []int{math.MinInt, -1, 0, 2, 3, 5, 7, 256, math.MaxInt} {
		check(move(chunk, 0, 1))
		check(move(chunk, 2, 1))
		check(move(chunk, 0, -1))
		checkApply(t, nil, []api.Move{move(chunk, 0, 1)}, nil, api.ErrPlace)
	}
	for _, from := range []int{math.MinInt, -2, -1, 1, 2, 4, 5, end - 1, end, math.MaxInt} {
		for _, to := range []int{-1, 1, 2, 5} {
			check(move(1, from, to))
			check(move(4, from, to))
		}
	}
	for _, to := range []int{math.MinInt, -3, -2, 0, 3, end, end + 1, math.MaxInt} {
		check(move(1, 0, to))
		check(move(1, 3, to))
	}
	for _, to := range []int{-2, 2, end - 1, end} {
		check(move(6, 2, to))
		check(move(6, end-1, to))
	}
}

// Places that may not be, with moves that might, and without.
func TestApplyBadPlaces(t *testing.T) {
	for _, l := range [][]api.Place{
		{place(-1, 0)}, {place(1, 0), place(1, 0)}, {place(2, 0), place(1, 0)},
		{place(1, 0, 0)}, {place(1, 3, 0)}, {place(1, 0, end)}, {place(1, -1, 0)}, {place(1, 0), place(2, -1)},
	} {
		checkApply(t, l, nil, nil, api.ErrPlace)
		checkApply(t, l, []api.Move{move(1, 0, 5)}, nil, api.ErrPlace)
	}
}

// Moves come one behind the other: each finds what those ahead of it left.
func TestApplyInOrder(t *testing.T) {
	l := []api.Place{place(0, 5), place(1, 0, 1)}
	check := func(want []api.Place, moves ...api.Move) {
		t.Helper()
		err := api.OK
		if want == nil {
			err = api.ErrPlace
		}
		checkApply(t, l, moves, want, err)
	}
	check(l)
	check([]api.Place{place(0, 7), place(1, 0, 1)}, move(0, 5, 7), move(0, 5, -1))
	check(nil, move(0, 5, -1), move(0, 5, 7))
	check([]api.Place{place(0, 5, 6, 7, 8), place(1, 0, 1)}, move(0, 5, 7), move(0, 7, 8), move(0, 8, 6))
	check(nil, move(0, 7, 8), move(0, 5, 7))
	check(nil, move(0, 5, 7), move(0, 5, 7))
	check([]api.Place{place(0, 5, 7), place(1, 0, 1)}, move(0, 5, 7), move(0, 7, -1), move(0, 5, 7))
	check([]api.Place{place(0), place(1, 9)}, move(1, 0, -1), move(0, 5, -1), move(1, 1, 9), move(1, 1, -1))
	check(nil, move(0, 5, -1), move(0, 5, -1))
	check(nil, move(0, 5, -1), move(0, 5, 4))
	check([]api.Place{place(0, 5), place(1, 0, 1)}, move(0, 5, 6), move(0, 6, 4), move(0, 6, -1), move(0, 4, -1))
}

// Nodes are no fewer than their numbers: a chunk may have many, which come and go at both ends and between.
func TestApplyLong(t *testing.T) {
	var many, few []int
	var made, gone []api.Move
	for n := range 3000 {
		many = append(many, n*7)
		if n%3 == 0 {
			few = append(few, n*7)
			continue
		}
		gone = append(gone, move(8, n*7, -1))
		made = append(made, move(8, 0, (3000-n)*7))
	}
	slices.Reverse(gone)
	checkApply(t, []api.Place{place(8, many...)}, gone, []api.Place{place(8, few...)}, api.OK)
	checkApply(t, []api.Place{place(8, few...)}, made, []api.Place{place(8, many...)}, api.OK)
}

// Lists that are nil and those that are empty are the same thing.
func TestApplyNothing(t *testing.T) {
	checkApply(t, nil, nil, nil, api.OK)
	checkApply(t, []api.Place{}, []api.Move{}, nil, api.OK)
	checkApply(t, []api.Place{{Chunk: 3, Nodes: []int{}}, {Chunk: 4}}, nil, []api.Place{place(3), place(4)}, api.OK)
}
