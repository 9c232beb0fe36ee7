package heal_test

import (
	"slices"
	"testing"

	"seawall/api"
	"seawall/heal"
)

func place(chunk int, nodes ...int) api.Place {
	return api.Place{Chunk: chunk, Nodes: nodes}
}

func move(chunk, from, to int) api.Move {
	return api.Move{Chunk: chunk, From: from, To: to}
}

// deep: places that share nothing with those, with room behind them and behind each one's nodes.
func deep(places []api.Place) []api.Place {
	l := make([]api.Place, 0, len(places)+3)
	for _, p := range places {
		l = append(l, place(p.Chunk, append(slices.Clone(p.Nodes), 77, 88, 99)[:len(p.Nodes)]...))
	}
	copy(l[len(l):cap(l)], []api.Place{place(77, 7), place(88, 8), place(99, 9)})
	return l
}

func samePlaces(a, b []api.Place) bool {
	return slices.EqualFunc(a, b, func(a, b api.Place) bool {
		return a.Chunk == b.Chunk && slices.Equal(a.Nodes, b.Nodes)
	})
}

// whole: places, and each one's nodes, with the room behind them.
func whole(places []api.Place) []api.Place {
	l := slices.Clone(places[:cap(places)])
	for i, p := range l {
		l[i].Nodes = p.Nodes[:cap(p.Nodes)]
	}
	return l
}

// clobber: no number stays as it was.
func clobber(places []api.Place) {
	for _, p := range whole(places) {
		for i := range p.Nodes {
			p.Nodes[i] = 5555
		}
	}
	clear(places[:cap(places)])
}

// asks is one of Plan and Drop.
type asks func([]int, uint32, int, []api.Place) ([]api.Move, api.Errno)

// checkMoves: what is answered, twice; what is handed in stays as it is, and what comes out is nobody else's.
func checkMoves(t *testing.T, name string, ask asks, sites []int, up uint32, copies int, places []api.Place, want []api.Move, wantErr api.Errno) {
	t.Helper()
	ownSites := append(slices.Clone(sites), 77, 88)
	own := deep(places)
	before := deep(whole(own))
	for range 2 {
		l, err := ask(ownSites[:len(sites)], up, copies, own)
		if err != wantErr || !slices.Equal(l, want) {
			t.Errorf("%s(%d, %b, %d, %v): %v, %d, not %v, %d", name, sites, up, copies, places, l, err, want, wantErr)
		}
		clear(l[:cap(l)])
	}
	if !slices.Equal(ownSites, append(slices.Clone(sites), 77, 88)) || !samePlaces(whole(own), before) {
		t.Errorf("%s(%d, %b, %d, %v) made the sites %d, the places %v", name, sites, up, copies, places, ownSites, whole(own))
	}
}

func checkPlan(t *testing.T, sites []int, up uint32, copies int, places []api.Place, want ...api.Move) {
	t.Helper()
	checkMoves(t, "Plan", heal.Plan, sites, up, copies, places, want, api.OK)
}

func checkDrop(t *testing.T, sites []int, up uint32, copies int, places []api.Place, want ...api.Move) {
	t.Helper()
	checkMoves(t, "Drop", heal.Drop, sites, up, copies, places, want, api.OK)
}

// checkCheck: what Check answers; what Plan and Drop answer, too, if it is an error.
func checkCheck(t *testing.T, sites []int, places []api.Place, want api.Errno) {
	t.Helper()
	own := deep(places)
	before := deep(whole(own))
	if err := heal.Check(sites, own); err != want {
		t.Errorf("Check(%d, %v): %d, not %d", sites, places, err, want)
	}
	if !samePlaces(whole(own), before) {
		t.Errorf("Check(%d, %v) made the places %v", sites, places, whole(own))
	}
	if want != api.OK {
		checkMoves(t, "Plan", heal.Plan, sites, 1, 1, places, nil, want)
		checkMoves(t, "Drop", heal.Drop, sites, 1, 1, places, nil, want)
	}
}

// checkApply: what is answered, twice; what is handed in stays as it is, and what comes out is nobody else's.
func checkApply(t *testing.T, places []api.Place, moves []api.Move, want []api.Place, wantErr api.Errno) {
	t.Helper()
	own, ownMoves := deep(places), append(slices.Clone(moves), move(7, 7, 7))
	before := deep(whole(own))
	for range 2 {
		l, err := heal.Apply(own, ownMoves[:len(moves)])
		if err != wantErr || !samePlaces(l, want) {
			t.Errorf("Apply(%v, %v): %v, %d, not %v, %d", places, moves, l, err, want, wantErr)
		}
		checkApart(t, l)
		clobber(l)
	}
	if !slices.Equal(ownMoves, append(slices.Clone(moves), move(7, 7, 7))) || !samePlaces(whole(own), before) {
		t.Errorf("Apply(%v, %v) made the places %v, the moves %v", places, moves, whole(own), ownMoves)
	}
}

// checkApart: the lists of one answer share nothing, nor does room behind one belong to another one.
func checkApart(t *testing.T, places []api.Place) {
	t.Helper()
	for i, p := range places {
		was := deep(places)
		all := p.Nodes[:cap(p.Nodes)]
		for at := range all {
			all[at] += 1000
		}
		for other, q := range places {
			if other != i && !slices.Equal(q.Nodes, was[other].Nodes) {
				t.Errorf("the nodes of %d and of %d share memory", p.Chunk, q.Chunk)
			}
		}
		for at := range all {
			all[at] -= 1000
		}
	}
}

// behind: places behind moves, which go well.
func behind(t *testing.T, places []api.Place, moves []api.Move) []api.Place {
	t.Helper()
	l, err := heal.Apply(places, moves)
	if err != api.OK {
		t.Fatalf("Apply(%v, %v): %d", places, moves, err)
	}
	return l
}

// plans: what Plan, or Drop, answers, which goes well.
func plans(t *testing.T, ask asks, sites []int, up uint32, copies int, places []api.Place) []api.Move {
	t.Helper()
	l, err := ask(sites, up, copies, places)
	if err != api.OK {
		t.Fatalf("(%d, %b, %d, %v): %d", sites, up, copies, places, err)
	}
	return l
}
