package rlog_test

import (
	"fmt"

	"seawall/rlog"
)

func Example() {
	l := rlog.New()
	fmt.Println(l.Learn(2, []byte("b")))
	fmt.Println(l.Apply())
	fmt.Println(l.Next(), l.Top(), l.Holes(9))

	l.Learn(1, []byte("a"))
	fmt.Println(l.Apply())
	fmt.Println(l.Apply())
	fmt.Println(l.Learn(2, []byte("c")))

	fmt.Println(l.Catch(1, 9))
	fmt.Println(l.Trim(1))
	fmt.Println(l.Catch(1, 9), l.Catch(2, 9))
	fmt.Println(l.Learn(1, []byte("x")))

	fmt.Println(l.Install(7), l.Applied(), l.Catch(2, 9))
	// Output:
	// 0
	// {0 []} false
	// 1 2 [1]
	// {1 [97]} true
	// {2 [98]} true
	// 120
	// [{1 [97]} {2 [98]}]
	// 1
	// [] [{2 [98]}]
	// 0
	// true 7 []
}
