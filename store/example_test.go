package store_test

import (
	"fmt"

	"seawall/api"
	"seawall/disk"
	"seawall/store"
)

func Example() {
	d, _ := disk.New(20)
	s, err := store.Open(d)
	fmt.Println(s.Len(), err)

	s.Do([]api.Change{{Key: "a", Value: "x"}, {Key: "b", Gone: true}})
	fmt.Println(s.Get("a"))
	fmt.Println(s.Get("b"))
	fmt.Println(s.Waiting())

	d.Crash(nil)
	s, _ = store.Open(d)
	fmt.Println(s.Get("a"))

	s.Do([]api.Change{{Key: "c", Value: "3"}, {Key: "a", Value: "1"}})
	s.Sync()
	s.Do([]api.Change{{Key: "a", Gone: true}})
	d.Crash(nil)
	s, _ = store.Open(d)
	for key, value := range s.All() {
		fmt.Println(key, value)
	}
	// Output:
	// 0 0
	// x true
	//  false
	// 1
	//  false
	// a 1
	// c 3
}
