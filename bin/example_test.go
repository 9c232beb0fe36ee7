package bin_test

import (
	"fmt"

	"seawall/bin"
)

func Example() {
	b := append(bin.PutUint(300), bin.PutBytes([]byte("ab"))...)
	fmt.Printf("% x\n", b)

	r := bin.New(b)
	fmt.Println(r.Uint(), string(r.Bytes(10)), r.Left(), r.Err())
	fmt.Println(r.Uint(), r.Err())
	// Output:
	// ac 02 02 61 62
	// 300 ab 0 0
	// 0 10
}
