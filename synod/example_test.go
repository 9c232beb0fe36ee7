package synod_test

import (
	"fmt"

	"seawall/api"
	"seawall/synod"
)

func Example() {
	r, err := synod.New(api.Quorum{Kind: 1, Nodes: 3, One: 2, Two: 2})
	fmt.Println(err)

	fmt.Println(r.Start(0, []byte("x")))
	fmt.Println(r.Len())
	r.Take(0)
	r.Take(0)
	r.Take(0)
	fmt.Println(r.Look(0))
	r.Take(0)
	r.Take(0)
	fmt.Println(r.Len())
	fmt.Println(r.Look(1))

	for r.Take(0) {
	}
	fmt.Println(r.Learned(0))
	fmt.Println(r.Learned(1))
	fmt.Println(r.Voted(1))
	fmt.Println(r.Crash(0))
	fmt.Println(r.Learned(0))
	// Output:
	// 0
	// {1 0} 0
	// 3
	// {2 0 0 {1 0} []} true
	// 4
	// {3 0 0 {1 0} [{1 {1 0} [120]}]} true
	// [120] true
	// [] false
	// {1 0} {1 {1 0} [120]}
	// 0
	// [] false
}
