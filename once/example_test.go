package once_test

import (
	"fmt"

	"seawall/once"
)

func Example() {
	t, _ := once.New(2)
	fmt.Println(t.Begin(7, 1))
	fmt.Println(t.Begin(7, 1))
	fmt.Println(t.End(7, 1, []byte("a")))
	fmt.Println(t.Begin(7, 1))
	fmt.Println(t.Begin(7, 3))
	fmt.Println(t.Begin(7, 2))

	fmt.Println(t.Begin(8, 1))
	fmt.Println(t.Begin(9, 1))
	fmt.Println(t.End(7, 3, []byte("b")))
	fmt.Println(t.Begin(9, 1))
	fmt.Println(t.Clients())
	fmt.Println(t.Counts())

	b := t.Save()
	fmt.Printf("% x\n", b)
	t, err := once.Load(b)
	fmt.Println(err)
	fmt.Println(t.Begin(8, 1))
	// Output:
	// 1 [] 0
	// 3 [] 0
	// 0
	// 2 [97] 0
	// 1 [] 0
	// 0 [] 70
	// 1 [] 0
	// 0 [] 130
	// 0
	// 1 [] 0
	// [{8 1 true []} {9 1 true []}]
	// 4 1
	// 02 02 08 01 01 09 01 01
	// 0
	// 3 [] 0
}
