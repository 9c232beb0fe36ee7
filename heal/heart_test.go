package heal_test

import (
	"math/bits"
	"math/rand"
	"slices"
	"testing"

	"seawall/api"
	"seawall/heal"
)

// scene is nodes and places, as one is drawn.
type scene struct {
	sites  []int
	up     uint32
	copies int
	places []api.Place
}

func newScene(draw *rand.Rand) *scene {
	s := &scene{copies: 1 + draw.Intn(5)}
	many := 1 + draw.Intn(5)
	for range 1 + draw.Intn(12) {
		s.sites = append(s.sites, draw.Intn(many))
	}
	s.up = uint32(draw.Intn(1<<12)|draw.Intn(1<<12)) & (1<<len(s.sites) - 1)
	for chunk := range draw.Intn(20) {
		p := place(chunk * 3)
		some := 1 + draw.Intn(6)
		for node := range s.sites {
			if draw.Intn(some) == 0 {
				p.Nodes = append(p.Nodes, node)
			}
		}
		s.places = append(s.places, p)
	}
	return s
}

// live: on how many nodes a place is live; of one site, or (site -1) of all.
func (s *scene) live(p api.Place, site int) int {
	n := 0
	for _, node := range p.Nodes {
		if s.up>>node%2 == 1 && (site == -1 || s.sites[node] == site) {
			n++
		}
	}
	return n
}

// enough: on how many nodes a chunk should be live.
func (s *scene) enough() int {
	return min(s.copies, bits.OnesCount32(s.up))
}

// Behind a plan each chunk that is live somewhere has its copies: as many as there should be, or as there can be; another plan has no moves.
func TestHealed(t *testing.T) {
	moves := 0
	for seed := range 5000 {
		s := newScene(rand.New(rand.NewSource(int64(seed))))
		plan := plans(t, heal.Plan, s.sites, s.up, s.copies, s.places)
		now := behind(t, s.places, plan)
		missing := 0 // a move makes a chunk live on one node more at most: so many must be
		for at, p := range now {
			was := s.live(s.places[at], -1)
			if is := s.live(p, -1); is != max(was, s.enough()) && was > 0 || is != 0 && was == 0 {
				t.Errorf("chunk %d is live on %d nodes, and was on %d", p.Chunk, is, was)
			}
			if was > 0 {
				missing += max(s.enough()-was, 0)
			}
		}
		if len(plan) != missing {
			t.Errorf("%d moves, where %d will do", len(plan), missing)
		}
		checkPlan(t, s.sites, s.up, s.copies, now)
		moves += len(plan)
		if t.Failed() {
			t.Fatalf("at seed %d", seed)
		}
	}
	if moves < 10000 {
		t.Errorf("there were only %d moves", moves)
	}
}

// No move goes to a site while the chunk is live on fewer nodes of another one that has a node free for it; each comes from a node on which it is live.
func TestSpread(t *testing.T) {
	choices := 0
	for seed := range 2000 {
		s := newScene(rand.New(rand.NewSource(int64(seed))))
		now := s.places
		for _, m := range plans(t, heal.Plan, s.sites, s.up, s.copies, s.places) {
			at := slices.IndexFunc(now, func(p api.Place) bool { return p.Chunk == m.Chunk })
			p := now[at]
			if s.up>>m.From%2 == 0 || s.up>>m.To%2 == 0 || !slices.Contains(p.Nodes, m.From) || slices.Contains(p.Nodes, m.To) {
				t.Errorf("of %v: %v", p, m)
			}
			for node, site := range s.sites {
				free := s.up>>node%2 == 1 && !slices.Contains(p.Nodes, node)
				if free && s.live(p, site) < s.live(p, s.sites[m.To]) {
					t.Errorf("of %v: %v, though the node %d is free", p, m, node)
				}
				if free && site != s.sites[m.To] {
					choices++
				}
			}
			now = behind(t, now, []api.Move{m})
		}
		if t.Failed() {
			t.Fatalf("at seed %d", seed)
		}
	}
	if choices < 10000 {
		t.Errorf("there were only %d choices", choices)
	}
}

// Behind a Drop no chunk is live on more nodes than it should be, none on fewer than it was, or should be; none goes from a site while there are more on another one.
func TestThinned(t *testing.T) {
	moves := 0
	for seed := range 3000 {
		s := newScene(rand.New(rand.NewSource(int64(seed))))
		plan := plans(t, heal.Drop, s.sites, s.up, s.copies, s.places)
		now := s.places
		for _, m := range plan {
			at := slices.IndexFunc(now, func(p api.Place) bool { return p.Chunk == m.Chunk })
			for site := range 5 {
				if s.live(now[at], site) > s.live(now[at], s.sites[m.From]) {
					t.Errorf("of %v: %v, though the site %d has more", now[at], m, site)
				}
			}
			now = behind(t, now, []api.Move{m})
		}
		for at, p := range now {
			if is, was := s.live(p, -1), s.live(s.places[at], -1); is != min(was, s.copies) {
				t.Errorf("chunk %d is live on %d nodes, and was on %d", p.Chunk, is, was)
			}
			if down := len(s.places[at].Nodes) - s.live(s.places[at], -1); len(p.Nodes)-s.live(p, -1) != down {
				t.Errorf("chunk %d: %d, of %d", p.Chunk, p.Nodes, s.places[at].Nodes)
			}
		}
		checkDrop(t, s.sites, s.up, s.copies, now)
		moves += len(plan)
		if t.Failed() {
			t.Fatalf("at seed %d", seed)
		}
	}
	if moves < 5000 {
		t.Errorf("there were only %d moves", moves)
	}
}

// small: the places of two chunks on three nodes, of a number: three bits a chunk.
func small(state int) []api.Place {
	l := []api.Place{place(0), place(1)}
	for bit := range 6 {
		if state>>bit%2 == 1 {
			l[bit/3].Nodes = append(l[bit/3].Nodes, bit%3)
		}
	}
	return l
}

// smallSteps: of each such places those to which any one move leads.
func smallSteps() [64][]int {
	var steps [64][]int
	number := func(places []api.Place) int {
		state := 0
		for at, p := range places {
			for _, node := range p.Nodes {
				state += 1 << (3*at + node)
			}
		}
		return state
	}
	for state := range steps {
		for n := range 2 * 3 * 4 {
			now, err := heal.Apply(small(state), []api.Move{move(n%2, n/2%3, n/6-1)})
			if err == api.OK {
				steps[state] = append(steps[state], number(now))
			}
		}
	}
	return steps
}

// Of two chunks on three nodes, whatever is up: no row of moves, such as Apply takes, that is shorter than a plan does what it does.
func TestNoFewerMoves(t *testing.T) {
	steps := smallSteps()
	for n := range 64 * 8 * 3 {
		state, s := n%64, &scene{sites: []int{0, 0, 1}, up: uint32(n / 64 % 8), copies: 1 + n/64/8}
		s.places = small(state)
		done := func(state int) bool {
			for at, p := range small(state) {
				if s.live(s.places[at], -1) > 0 && s.live(p, -1) < s.enough() {
					return false
				}
			}
			return true
		}
		reached, few := []int{state}, 0
		for ; !slices.ContainsFunc(reached, done); few++ {
			for _, from := range reached {
				reached = append(reached, steps[from]...)
			}
			slices.Sort(reached)
			reached = slices.Compact(reached)
		}
		plan := plans(t, heal.Plan, s.sites, s.up, s.copies, s.places)
		if len(plan) != few {
			t.Fatalf("Plan(%d, %b, %d, %v): %v, where %d moves will do", s.sites, s.up, s.copies, s.places, plan, few)
		}
	}
}

// A node after another one goes for good, each chunk being healed between: of three copies at most one is lost at a time, down to the last two nodes.
func TestNodesGo(t *testing.T) {
	sites := []int{0, 0, 0, 1, 1, 1, 2, 2, 2}
	draw := rand.New(rand.NewSource(16))
	for range 200 {
		up := uint32(1<<9 - 1)
		var l []api.Place
		for chunk := range 40 {
			l = append(l, place(chunk, draw.Intn(9)))
		}
		for _, node := range draw.Perm(9)[:7] {
			l = behind(t, l, plans(t, heal.Plan, sites, up, 3, l))
			up &^= 1 << node
			s := &scene{sites: sites, up: up, copies: 3, places: l}
			for _, p := range l {
				if s.live(p, -1) < 2 {
					t.Fatalf("with %b up the chunk %d is on %d", up, p.Chunk, p.Nodes)
				}
			}
		}
	}
}
