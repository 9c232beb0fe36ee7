package heal_test

import (
	"fmt"

	"seawall/api"
	"seawall/heal"
)

func Example() {
	sites := []int{0, 0, 1}
	places := []api.Place{{Chunk: 0, Nodes: []int{0}}, {Chunk: 1, Nodes: []int{1, 2}}}
	fmt.Println(heal.Check(sites, places))

	moves, err := heal.Plan(sites, 0b111, 2, places)
	fmt.Println(moves, err)
	now, err := heal.Apply(places, moves)
	fmt.Println(now, err)

	moves, err = heal.Plan(sites, 0b011, 2, now) // node 2 is gone
	fmt.Println(moves, err)
	now, err = heal.Apply(now, moves)
	fmt.Println(now, err)

	moves, err = heal.Drop(sites, 0b111, 2, now) // it is back
	fmt.Println(moves, err)
	now, err = heal.Apply(now, moves)
	fmt.Println(now, err)
	// Output:
	// 0
	// [{0 0 2}] 0
	// [{0 [0 2]} {1 [1 2]}] 0
	// [{0 0 1} {1 1 0}] 0
	// [{0 [0 1 2]} {1 [0 1 2]}] 0
	// [{0 1 -1} {1 0 -1}] 0
	// [{0 [0 2]} {1 [1 2]}] 0
}
