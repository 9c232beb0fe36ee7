package beat_test

import (
	"slices"
	"testing"

	"seawall/api"
	"seawall/beat"
)

// start: a new view; of the sites that were handed in nothing is left.
func start(t *testing.T, sites []int, me, patience int) *beat.View {
	t.Helper()
	own := append(slices.Clone(sites), 77, 88, 99)
	v, err := beat.New(own[:len(sites)], me, patience)
	if err != api.OK || v == nil {
		t.Fatalf("New(%d, %d, %d): %v, %d", sites, me, patience, v, err)
	}
	if !slices.Equal(own, append(slices.Clone(sites), 77, 88, 99)) {
		t.Errorf("New(%d, %d, %d) made the sites %d", sites, me, patience, own)
	}
	clear(own)
	return v
}

func checkHear(t *testing.T, v *beat.View, node int, want api.Errno) {
	t.Helper()
	if err := v.Hear(node); err != want {
		t.Errorf("Hear(%d): %d, not %d", node, err, want)
	}
}

func checkUp(t *testing.T, v *beat.View, want uint32) {
	t.Helper()
	if up := v.Up(); up != want {
		t.Errorf("Up: %b, not %b", up, want)
	}
}

func checkCalm(t *testing.T, v *beat.View, want int) {
	t.Helper()
	if calm := v.Calm(); calm != want {
		t.Errorf("Calm: %d, not %d", calm, want)
	}
}

// checkSince: of the nodes from 0 on, behind which there is none.
func checkSince(t *testing.T, v *beat.View, want ...int) {
	t.Helper()
	for node, w := range append(want, -1) {
		if since := v.Since(node); since != w {
			t.Errorf("Since(%d): %d, not %d", node, since, w)
		}
	}
}

// checkOrder: the order, and the leader, who is its first. What comes out is clobbered, with the room behind it.
func checkOrder(t *testing.T, v *beat.View, home int, want ...int) {
	t.Helper()
	l := v.Order(home)
	if !slices.Equal(l, want) {
		t.Errorf("Order(%d): %d, not %d", home, l, want)
	}
	if leader := v.Leader(home); leader != want[0] {
		t.Errorf("Leader(%d): %d, not %d", home, leader, want[0])
	}
	l = l[:cap(l)]
	for i := range l {
		l[i] = 5
	}
}

// tick: time goes by, so many times.
func tick(v *beat.View, n int) {
	for range n {
		v.Tick()
	}
}
