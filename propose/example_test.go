package propose_test

import (
	"fmt"

	"seawall/api"
	"seawall/propose"
)

func Example() {
	q := api.Quorum{Kind: 1, Nodes: 3, One: 2, Two: 2}
	p, err := propose.New(q, api.Ballot{N: 5}, 1)
	fmt.Println(p.Ready(), p.Top(), p.Prefix(), err)

	p.Promise(0, nil)
	p.Promise(2, []api.Vote{{Slot: 1, Ballot: api.Ballot{N: 3, Node: 1}, Value: []byte("x")}})
	fmt.Println(p.Ready(), p.Top())

	fmt.Println(p.Propose(1, []byte("y")))
	fmt.Println(p.Propose(2, []byte("y")))
	fmt.Println(p.Propose(2, []byte("z")))

	p.Accepted(0, 1)
	p.Accepted(1, 1)
	fmt.Println(p.Chosen(1))
	fmt.Println(p.Chosen(2))
	fmt.Println(p.Prefix())
	// Output:
	// false 0 0 0
	// true 1
	// {1 {5 0} [120]} 0
	// {2 {5 0} [121]} 0
	// {2 {5 0} [121]} 0
	// [120] true
	// [] false
	// 1
}
