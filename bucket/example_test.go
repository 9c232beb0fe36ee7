package bucket_test

import (
	"fmt"

	"seawall/bucket"
)

func Example() {
	b, err := bucket.New(3, 10)
	fmt.Println(err, b.Level())

	fmt.Println(b.Take(10), b.Take(1))
	fmt.Println(b.Wait(7), b.Wait(11))

	b.Tick(3)
	fmt.Println(b.Level(), b.Take(7))

	b.Tick(5)
	fmt.Println(b.Level())

	fmt.Println(bucket.Back(4, 100, 3, 5))
	// Output:
	// 0 10
	// true false
	// 3 -1
	// 9 true
	// 10
	// 13
}
