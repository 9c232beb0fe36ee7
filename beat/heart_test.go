package beat_test

import (
	"math/bits"
	"math/rand"
	"testing"

	"seawall/api"
	"seawall/beat"
)

// world is nodes that beat, each with its view of the others.
type world struct {
	sites    []int
	patience int
	views    []*beat.View
}

func newWorld(t *testing.T, draw *rand.Rand) *world {
	t.Helper()
	w := &world{patience: 1 + draw.Intn(6)}
	for range 1 + draw.Intn(12) {
		w.sites = append(w.sites, draw.Intn(4))
	}
	for me := range w.sites {
		w.views = append(w.views, start(t, w.sites, me, w.patience))
	}
	return w
}

// hear: a node's beat comes to another one.
func (w *world) hear(t *testing.T, to, from int) {
	t.Helper()
	checkHear(t, w.views[to], from, api.OK)
}

// muddle: beats come to some and not to others, and time does not go by for all alike.
func (w *world) muddle(t *testing.T, draw *rand.Rand) {
	t.Helper()
	for range draw.Intn(200) {
		to := draw.Intn(len(w.views))
		if draw.Intn(3) == 0 {
			w.views[to].Tick()
		} else {
			w.hear(t, to, draw.Intn(len(w.views)))
		}
	}
}

// among: a set of some nodes, of which at least one is one.
func (w *world) among(draw *rand.Rand) uint32 {
	return uint32(1+draw.Intn(1<<len(w.sites)-1)) & (1<<len(w.sites) - 1)
}

// together: for patience ticks the same beats come to all nodes of a set, each of which beats at least once; who was heard.
func (w *world) together(t *testing.T, draw *rand.Rand, set uint32) uint32 {
	t.Helper()
	at := make([]int, len(w.sites)) // the tick at which each one surely beats
	for node := range at {
		at[node] = draw.Intn(w.patience)
	}
	heard := uint32(0)
	for n := range w.patience {
		for to, v := range w.views {
			if set>>to&1 == 1 {
				v.Tick()
			}
		}
		for from := range w.sites {
			sure := set>>from&1 == 1 && at[from] == n
			if !sure && draw.Intn(8) > 0 {
				continue
			}
			heard |= 1 << from
			for to := range w.views {
				if set>>to&1 == 1 {
					w.hear(t, to, from)
				}
			}
		}
	}
	return heard
}

// Views that hear the same beats for patience ticks hold the same nodes for up, and the same one for leader, whatever was ahead.
func TestOneLeader(t *testing.T) {
	others := 0
	for seed := range 3000 {
		draw := rand.New(rand.NewSource(int64(seed)))
		w := newWorld(t, draw)
		w.muddle(t, draw)
		set := w.among(draw)
		heard := w.together(t, draw, set)
		others += bits.OnesCount32(heard &^ set)
		for to, v := range w.views {
			if set>>to&1 == 0 {
				continue
			}
			checkUp(t, v, heard)
			for home := range 4 {
				checkOrder(t, v, home, plainOrder(w.sites, heard, home)...)
			}
		}
		if t.Failed() {
			t.Fatalf("at seed %d", seed)
		}
	}
	if others < 1000 {
		t.Errorf("only %d nodes were heard that did not hear", others)
	}
}

// While nodes are parted each part has a leader of its own; patience ticks behind that all have one.
func TestParted(t *testing.T) {
	w := &world{sites: []int{0, 1, 0, 1, 2}, patience: 3}
	for me := range w.sites {
		w.views = append(w.views, start(t, w.sites, me, w.patience))
	}
	draw := rand.New(rand.NewSource(1))
	check := func(set uint32, home, leader int) {
		t.Helper()
		for to, v := range w.views {
			if got := v.Leader(home); set>>to&1 == 1 && got != leader {
				t.Errorf("node %d: Leader(%d): %d, not %d", to, home, got, leader)
			}
		}
	}
	w.apart(t, draw, 0b11111)
	check(0b11111, 0, 0)
	check(0b11111, 1, 1)
	check(0b11111, 2, 4)
	w.apart(t, draw, 0b01101, 0b10010)
	check(0b01101, 0, 0)
	check(0b01101, 1, 3)
	check(0b01101, 2, 0)
	check(0b10010, 0, 1)
	check(0b10010, 1, 1)
	check(0b10010, 2, 4)
	w.apart(t, draw, 0b11111)
	check(0b11111, 0, 0)
	check(0b11111, 1, 1)
	check(0b11111, 2, 4)
}

// apart: for patience ticks each node hears all of its own set, and nobody else.
func (w *world) apart(t *testing.T, draw *rand.Rand, sets ...uint32) {
	t.Helper()
	for range w.patience {
		for to, v := range w.views {
			v.Tick()
			for _, from := range draw.Perm(len(w.sites)) {
				for _, set := range sets {
					if (set>>to)&(set>>from)&1 == 1 {
						w.hear(t, to, from)
					}
				}
			}
		}
	}
}
