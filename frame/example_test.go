package frame_test

import (
	"fmt"

	"seawall/frame"
)

func Example() {
	a, _ := frame.Put(1, []byte("a"))
	b, _ := frame.Put(2, []byte("bc"))
	row := append(a, b...)

	f, to, err := frame.Get(row, 0)
	fmt.Println(f.Kind, string(f.Body), to, err)

	_, _, err = frame.Get(row, 1)
	fmt.Println(err)

	frames, n := frame.Scan(row[:len(row)-1])
	fmt.Println(len(frames), n, frame.Seek(row, 1))
	// Output:
	// 1 a 11 0
	// 20
	// 1 11 11
}
