package beat_test

import (
	"math"
	"slices"
	"testing"

	"seawall/api"
	"seawall/beat"
)

// The chapter's example.
func TestExample(t *testing.T) {
	v := start(t, []int{0, 0, 1}, 1, 2)
	checkUp(t, v, 0b010)
	checkHear(t, v, 2, api.OK)
	checkHear(t, v, 0, api.OK)
	checkUp(t, v, 0b111)
	checkOrder(t, v, 1, 2, 0, 1)
	checkOrder(t, v, 0, 0, 1, 2)
	v.Tick()
	checkHear(t, v, 0, api.OK)
	v.Tick()
	checkUp(t, v, 0b011)
	checkSince(t, v, 1, 0, 2)
	checkCalm(t, v, 0)
	checkOrder(t, v, 1, 0, 1)
}

// What a new view answers, of each number of nodes, whoever it is of.
func TestNew(t *testing.T) {
	for n := 1; n <= 12; n++ {
		for me := range n {
			for _, patience := range []int{1, 2, 999, 1000} {
				v := start(t, make([]int, n), me, patience)
				checkUp(t, v, 1<<me)
				checkCalm(t, v, 0)
				checkOrder(t, v, 0, me)
				since := slices.Repeat([]int{patience}, n)
				since[me] = 0
				checkSince(t, v, since...)
			}
		}
	}
}

// What may be is taken, what is a little beyond it is refused.
func TestNewErrors(t *testing.T) {
	for _, site := range []int{0, 1, 10, 11} {
		start(t, []int{0, site, 0}, 0, 1)
	}
	check := func(sites []int, me, patience int) {
		t.Helper()
		if v, err := beat.New(sites, me, patience); v != nil || err != api.ErrArg {
			t.Errorf("New(%d, %d, %d): %v, %d", sites, me, patience, v, err)
		}
	}
	for _, n := range []int{0, 13, 14, 100} {
		check(make([]int, n), 0, 1)
	}
	check(nil, 0, 1)
	for _, site := range []int{-1, 12, 13, math.MinInt, math.MaxInt} {
		check([]int{site}, 0, 1)
		check([]int{site, 0, 0}, 1, 1)
		check([]int{0, 0, site}, 1, 1)
	}
	for _, me := range []int{-1, 3, 4, 11, 12, math.MinInt, math.MaxInt} {
		check([]int{0, 1, 2}, me, 1)
	}
	for _, patience := range []int{0, -1, 1001, math.MinInt, math.MaxInt} {
		check([]int{0, 1, 2}, 1, patience)
	}
}

// All calls of nil.
func TestNil(t *testing.T) {
	var v *beat.View
	for _, n := range []int{math.MinInt, -1, 0, 1, 12, math.MaxInt} {
		checkHear(t, v, n, api.ErrNil)
		if since, leader := v.Since(n), v.Leader(n); since != -1 || leader != -1 {
			t.Errorf("Since(%d), Leader(%d): %d, %d", n, n, since, leader)
		}
		if l := v.Order(n); len(l) != 0 {
			t.Errorf("Order(%d): %d", n, l)
		}
	}
	v.Tick()
	checkUp(t, v, 0)
	checkCalm(t, v, 0)
}

// Who is no node was heard never, and to hear one changes nothing.
func TestNoSuchNode(t *testing.T) {
	for n := 1; n <= 12; n++ {
		v := start(t, make([]int, n), 0, 5)
		v.Hear(n - 1)
		tick(v, 3)
		was, calm := v.Up(), v.Calm()
		for _, node := range []int{math.MinInt, -12, -1, n, n + 1, 12, 31, 32, 64, math.MaxInt} {
			if node == n-1 || node >= 0 && node < n {
				continue
			}
			checkHear(t, v, node, api.ErrArg)
			if since := v.Since(node); since != -1 {
				t.Errorf("of %d nodes: Since(%d): %d", n, node, since)
			}
		}
		checkUp(t, v, was)
		checkCalm(t, v, calm)
	}
}

// Since rises with each tick, to patience and no further; a node is up below that.
func TestSince(t *testing.T) {
	for _, patience := range []int{1, 2, 3, 7, 1000} {
		v := start(t, []int{0, 0, 0}, 1, patience)
		checkHear(t, v, 2, api.OK)
		for n := range patience + 3 {
			up := uint32(0b110)
			if n >= patience {
				up = 0b010
			}
			checkSince(t, v, patience, 0, min(n, patience))
			checkUp(t, v, up)
			v.Tick()
		}
		checkHear(t, v, 0, api.OK)
		checkSince(t, v, 0, 0, patience)
		checkUp(t, v, 0b011)
		if t.Failed() {
			t.Fatalf("with patience %d", patience)
		}
	}
}

// Who is heard again is up for patience ticks from then on.
func TestHearAgain(t *testing.T) {
	v := start(t, []int{0, 0}, 0, 3)
	for range 20 {
		checkHear(t, v, 1, api.OK)
		checkHear(t, v, 1, api.OK)
		checkUp(t, v, 0b11)
		tick(v, 2)
		checkSince(t, v, 0, 2)
		checkUp(t, v, 0b11)
	}
	checkCalm(t, v, 40)
	v.Tick()
	checkUp(t, v, 0b01)
	checkCalm(t, v, 0)
}

// Me is up all the time; that it hears itself changes nothing.
func TestMe(t *testing.T) {
	for _, patience := range []int{1, 2, 1000} {
		v := start(t, []int{3}, 0, patience)
		tick(v, 7)
		checkHear(t, v, 0, api.OK)
		checkCalm(t, v, 7)
		tick(v, patience+3)
		checkCalm(t, v, min(patience+10, 1000))
		checkSince(t, v, 0)
		checkUp(t, v, 1)
		checkOrder(t, v, 3, 0)
		checkOrder(t, v, 4, 0)
	}
}

// Calm begins anew at a Hear, and at a Tick, that changes who is up, and at no other.
func TestCalm(t *testing.T) {
	v := start(t, []int{0, 0, 0, 0}, 0, 4)
	tick(v, 5)
	checkCalm(t, v, 5)
	checkHear(t, v, 1, api.OK) // is up now
	checkCalm(t, v, 0)
	v.Tick()
	checkCalm(t, v, 1)
	checkHear(t, v, 1, api.OK) // was up
	checkCalm(t, v, 1)
	tick(v, 2)
	checkCalm(t, v, 3)
	checkHear(t, v, 2, api.OK) // one more
	checkCalm(t, v, 0)
	v.Tick()
	checkCalm(t, v, 1)
	v.Tick() // the node 1 is gone
	checkUp(t, v, 0b0101)
	checkCalm(t, v, 0)
	v.Tick()
	checkCalm(t, v, 1)
	checkHear(t, v, 3, api.OK)
	checkCalm(t, v, 0)
	v.Tick() // the node 2 is gone, at the first tick since
	checkUp(t, v, 0b1001)
	checkCalm(t, v, 0)
	tick(v, 3)
	checkUp(t, v, 0b0001)
	checkCalm(t, v, 0)
	v.Tick()
	checkCalm(t, v, 1)
}

// Up is compared at each call alone: who goes at a tick and is heard behind it has changed it twice.
func TestGoneAndBack(t *testing.T) {
	v := start(t, []int{0, 0}, 0, 1)
	tick(v, 3)
	for range 5 {
		checkCalm(t, v, 3)
		checkHear(t, v, 1, api.OK)
		checkCalm(t, v, 0)
		checkHear(t, v, 1, api.OK)
		checkUp(t, v, 0b11)
		v.Tick()
		checkUp(t, v, 0b01)
		checkCalm(t, v, 0)
		tick(v, 3)
	}
}

// Calm counts to 1000, whatever patience is.
func TestCalmEnds(t *testing.T) {
	for _, patience := range []int{1, 5, 1000} {
		v := start(t, []int{0, 0}, 1, patience)
		for n := range 1100 {
			checkCalm(t, v, min(n, 1000))
			v.Tick()
		}
		checkHear(t, v, 0, api.OK)
		checkCalm(t, v, 0)
		v.Tick()
		checkCalm(t, v, min(patience-1, 1))
	}
}

// All arrangements of four nodes on three sites, and all that may be up: those of home first, then by sites, then by nodes.
func TestOrder(t *testing.T) {
	for n := range 81 {
		sites := []int{n % 3, n / 3 % 3, n / 9 % 3, n / 27}
		for up := range uint32(16) {
			for me := range 4 {
				if up>>me&1 == 0 {
					continue
				}
				v := start(t, sites, me, 2)
				for node := range 4 {
					if up>>node&1 == 1 {
						checkHear(t, v, node, api.OK)
					}
				}
				for home := -1; home < 4; home++ {
					checkOrder(t, v, home, plainOrder(sites, up, home)...)
				}
			}
		}
	}
}

// Where nobody of the home site is up, or there is no such site, the others come as they do.
func TestNoHome(t *testing.T) {
	v := start(t, []int{11, 2, 0, 2, 11}, 3, 2)
	for _, node := range []int{4, 2, 0} {
		checkHear(t, v, node, api.OK)
	}
	for _, home := range []int{math.MinInt, -1, 1, 10, 12, math.MaxInt} {
		checkOrder(t, v, home, 2, 3, 0, 4)
	}
	checkOrder(t, v, 0, 2, 3, 0, 4)
	checkOrder(t, v, 2, 3, 2, 0, 4)
	checkOrder(t, v, 11, 0, 4, 2, 3)
}

// All twelve nodes, each on a site of its own.
func TestMany(t *testing.T) {
	var sites, all []int
	for node := range 12 {
		sites, all = append(sites, 11-node), append(all, 11-node)
	}
	v := start(t, sites, 6, 1000)
	for node := range 12 {
		checkHear(t, v, node, api.OK)
	}
	checkUp(t, v, 0xfff)
	checkOrder(t, v, 12, all...)
	for home, node := range all {
		want := append([]int{node}, slices.Delete(slices.Clone(all), home, home+1)...)
		checkOrder(t, v, home, want...)
	}
}

// What comes out is nobody else's, and views know nothing of one another.
func TestNothingShared(t *testing.T) {
	sites := []int{1, 0, 1}
	one, two := start(t, sites, 0, 3), start(t, sites, 1, 3)
	for node := range 3 {
		checkHear(t, one, node, api.OK)
	}
	a, b := one.Order(1), one.Order(1)
	_ = append(a[:1], 9, 9, 9, 9)
	if !slices.Equal(b, []int{0, 2, 1}) {
		t.Errorf("Order(1): %d behind a change of another list", b)
	}
	checkOrder(t, one, 1, 0, 2, 1)
	checkOrder(t, one, 1, 0, 2, 1)
	checkUp(t, two, 0b010)
	two.Tick()
	checkSince(t, one, 0, 0, 0)
	checkCalm(t, one, 0)
	checkCalm(t, two, 1)
}
