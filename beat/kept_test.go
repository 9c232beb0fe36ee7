package beat

import (
	"testing"

	"seawall/api"
)

// However long nobody is heard, what is kept of it grows no further than what is told.
func TestKeepsNoMore(t *testing.T) {
	v, _ := New([]int{0, 3, 0}, 1, 3)
	v.Hear(2)
	for range 5000 {
		v.Tick()
		for i, n := range v.nodes {
			if n.since > v.patience || n.since > 0 && i == v.me {
				t.Fatalf("of the node %d %d is kept", i, n.since)
			}
		}
		if v.calm > api.MaxPatience {
			t.Fatalf("of calm %d is kept", v.calm)
		}
	}
}
