package net_test

import (
	"fmt"

	"seawall/api"
	"seawall/net"
)

func Example() {
	n, _ := net.New(2)
	n.Send(api.Packet{From: 0, To: 1, Body: []byte("a")})
	n.Send(api.Packet{From: 0, To: 1, Body: []byte("b")})
	n.Back(0)
	p, ok := n.Take(0)
	fmt.Println(p.From, p.To, string(p.Body), ok)

	n.Part(0, 1)
	fmt.Println(n.Send(api.Packet{From: 0, To: 1, Body: []byte("c")}), n.Len())
	// Output:
	// 0 1 b true
	// 0 1
}
