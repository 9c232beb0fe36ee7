package disk_test

import (
	"bytes"
	"fmt"

	"seawall/api"
	"seawall/disk"
)

func Example() {
	d, _ := disk.New(2)
	d.Write(0, bytes.Repeat([]byte{1}, api.Sector))
	d.Crash([]int{3})
	b, err := d.Read(0)
	fmt.Println(b[:5], err)

	d.Write(0, bytes.Repeat([]byte{2}, api.Sector))
	d.Sync()
	d.Write(0, bytes.Repeat([]byte{3}, api.Sector))
	fmt.Println(d.Waiting())
	d.Crash(nil)
	b, err = d.Read(0)
	fmt.Println(b[:5], err)

	d.Arm(1)
	fmt.Println(d.Write(1, b), d.Sync(), d.Up())
	d.Crash(nil)
	fmt.Println(d.Up())
	// Output:
	// [1 1 1 0 0] 0
	// 1
	// [2 2 2 2 2] 0
	// 0 6 false
	// true
}
