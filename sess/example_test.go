package sess_test

import (
	"fmt"

	"seawall/sess"
)

func Example() {
	x, _ := sess.NewSender(1, 2, 3)
	x.Push([]byte("a"))
	x.Push([]byte("b"))
	x.Push([]byte("c"))
	first := x.Tick()
	fmt.Println(first[0].Seq, first[1].Seq, len(x.Tick()), len(x.Tick()))
	again := x.Tick()
	fmt.Println(again[0].Seq, again[1].Seq)

	y, _ := sess.NewReceiver(2)
	l, answer, _ := y.Hear(first[1])
	fmt.Println(len(l), answer.Ack, answer.Seq)
	l, answer, _ = y.Hear(first[0])
	fmt.Println(string(l[0]), string(l[1]), answer.Ack, answer.Seq)

	x.Hear(answer)
	fmt.Println(x.Left(), x.Tick()[0].Seq)
	// Output:
	// 1 2 0 0
	// 1 2
	// 0 true 0
	// a b true 2
	// 1 3
}
