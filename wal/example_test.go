package wal_test

import (
	"fmt"

	"seawall/disk"
	"seawall/wal"
)

func Example() {
	d, _ := disk.New(10)
	w, err := wal.Open(d)
	fmt.Println(w.Room(), err)

	w.Append([]byte("a"))
	w.Sync()
	w.Append([]byte("b"))
	fmt.Println(len(w.Records()), w.Safe(), w.Room())

	d.Crash(nil)
	w, _ = wal.Open(d)
	fmt.Printf("%s %d %d\n", w.Records(), w.Safe(), w.Room())

	w.Reset([][]byte{[]byte("c"), []byte("d")})
	d.Arm(0)
	fmt.Println(w.Append([]byte("e")), len(w.Records()))

	d.Crash(nil)
	w, _ = wal.Open(d)
	fmt.Printf("%s %d\n", w.Records(), w.Room())
	// Output:
	// 128 0
	// 2 1 106
	// [a] 1 117
	// 6 0
	// [c d] 106
}
