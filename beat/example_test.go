package beat_test

import (
	"fmt"

	"seawall/beat"
)

func Example() {
	v, err := beat.New([]int{0, 0, 1}, 1, 2)
	fmt.Printf("%d %03b\n", err, v.Up())

	fmt.Println(v.Hear(2), v.Hear(0), v.Hear(3))
	fmt.Printf("%03b\n", v.Up())
	fmt.Println(v.Leader(1), v.Order(0), v.Order(1))

	v.Tick()
	fmt.Println(v.Since(2), v.Calm())
	v.Hear(0)
	v.Tick()
	fmt.Printf("%03b\n", v.Up())
	fmt.Println(v.Since(2), v.Calm(), v.Leader(1))
	// Output:
	// 0 010
	// 0 0 2
	// 111
	// 2 [0 1 2] [2 0 1]
	// 1 1
	// 011
	// 2 0 0
}
