package quorum_test

import (
	"fmt"

	"seawall/api"
	"seawall/quorum"
)

func Example() {
	q := api.Quorum{Kind: 1, Nodes: 4, One: 3, Two: 2}
	fmt.Println(quorum.Right(q), quorum.First(q, 0b0111), quorum.Second(q, 0b0011), quorum.Can(q, 0b0011))
	fmt.Println(quorum.Least(q, true))
	fmt.Println(quorum.Reach(q, 1), quorum.Reach(q, 2))
	q.Two = 1
	fmt.Println(quorum.Right(q) == api.ErrMeet)

	q = api.Quorum{Kind: 2, Nodes: 6, One: 2, Two: 3}
	fmt.Printf("%06b %06b\n", quorum.Least(q, false), quorum.Least(q, true))

	q = api.Quorum{Kind: 3, Nodes: 3, Sites: []int{0, 0, 1}}
	fmt.Printf("%03b %03b\n", quorum.Least(q, false), quorum.Least(q, true))
	// Output:
	// 0 true true false
	// [3 5 6 9 10 12]
	// 0 4
	// true
	// [000111 111000] [001001 010010 100100]
	// [101 110] [011 100]
}
