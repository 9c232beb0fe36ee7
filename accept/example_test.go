package accept_test

import (
	"fmt"

	"seawall/accept"
	"seawall/api"
	"seawall/disk"
)

func Example() {
	d, _ := disk.New(60)
	a, err := accept.Open(d)
	fmt.Println(a.Promised(), err)

	fmt.Println(a.Prepare(api.Ballot{N: 1, Node: 2}, 1))
	fmt.Println(a.Accept(api.Vote{Slot: 3, Ballot: api.Ballot{N: 1, Node: 2}, Value: []byte("x")}))
	fmt.Println(a.Prepare(api.Ballot{N: 1, Node: 1}, 1))

	d.Crash(nil)
	a, _ = accept.Open(d)
	fmt.Println(a.Prepare(api.Ballot{N: 2, Node: 0}, 1))
	fmt.Println(a.Trim(9))
	fmt.Println(a.Votes(1))
	// Output:
	// {0 0} 0
	// [] {1 2} 0
	// {1 2} 0
	// [] {1 2} 90
	// [{3 {1 2} [120]}] {2 0} 0
	// 1 0
	// []
}
