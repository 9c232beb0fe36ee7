package net_test

import (
	"bytes"
	"math"
	"math/rand"
	"slices"
	"strconv"
	"testing"

	"seawall/api"
	"seawall/net"
)

const (
	lowest  = math.MinInt
	highest = math.MaxInt
)

// fresh: a net of that many nodes.
func fresh(t *testing.T, nodes int) *net.Net {
	t.Helper()
	n, err := net.New(nodes)
	if n == nil || err != api.OK {
		t.Fatalf("New(%d): %v, %d", nodes, n, err)
	}
	return n
}

// packet: from a node to another one, with a short text.
func packet(from, to int, text string) api.Packet {
	return api.Packet{From: from, To: to, Body: []byte(text)}
}

// numbered: that many packets, which differ.
func numbered(n int) []api.Packet {
	var l []api.Packet
	for i := range n {
		l = append(l, packet(i%3, i/3%3, strconv.Itoa(i)))
	}
	return l
}

// send: all go well.
func send(t *testing.T, n *net.Net, l ...api.Packet) {
	t.Helper()
	for _, p := range l {
		if err := n.Send(p); err != api.OK {
			t.Fatalf("Send(%v): %d", p, err)
		}
	}
}

// sentNumbered: a net of three nodes with that many packets under way.
func sentNumbered(t *testing.T, n int) *net.Net {
	t.Helper()
	x := fresh(t, 3)
	send(t, x, numbered(n)...)
	return x
}

// part: goes well.
func part(t *testing.T, n *net.Net, a, b int) {
	t.Helper()
	if err := n.Part(a, b); err != api.OK {
		t.Fatalf("Part(%d, %d): %d", a, b, err)
	}
}

// join: goes well.
func join(t *testing.T, n *net.Net, a, b int) {
	t.Helper()
	if err := n.Join(a, b); err != api.OK {
		t.Fatalf("Join(%d, %d): %d", a, b, err)
	}
}

// same: are two packets alike?
func same(p, q api.Packet) bool {
	return p.From == q.From && p.To == q.To && bytes.Equal(p.Body, q.Body)
}

// checkRow: these are under way, in order, and nothing else.
func checkRow(t *testing.T, n *net.Net, want ...api.Packet) {
	t.Helper()
	if n.Len() != len(want) {
		t.Errorf("%d are under way, not %d", n.Len(), len(want))
	}
	for at, w := range want {
		if p, ok := n.Look(at); !ok || !same(p, w) {
			t.Errorf("Look(%d): %v, %t, not %v", at, p, ok, w)
		}
	}
	checkNothing(t, n, len(want))
}

// checkNothing: outside of that many places there is no packet for any call, and so each says.
func checkNothing(t *testing.T, n *net.Net, places int) {
	t.Helper()
	for _, at := range []int{-1, -2, -256, lowest, places, places + 1, api.MaxPackets, 1 << 32, highest} {
		if p, ok := n.Look(at); ok || !isZero(p) {
			t.Errorf("Look(%d) of %d: %v, %t", at, places, p, ok)
		}
		if p, ok := n.Take(at); ok || !isZero(p) {
			t.Errorf("Take(%d) of %d: %v, %t", at, places, p, ok)
		}
		if n.Drop(at) || n.Twice(at) || n.Back(at) {
			t.Errorf("Drop, Twice or Back(%d) of %d: true", at, places)
		}
	}
	if n.Len() != places {
		t.Errorf("then %d are under way, not %d", n.Len(), places)
	}
}

// isZero: is it a packet without anything?
func isZero(p api.Packet) bool {
	return p.From == 0 && p.To == 0 && len(p.Body) == 0
}

// checkParted: of all pairs of nodes just these are parted, either way, and nothing that is no node is.
func checkParted(t *testing.T, n *net.Net, nodes int, want ...[2]int) {
	t.Helper()
	for a := -2; a < api.MaxNodes+3; a++ {
		for b := -2; b < api.MaxNodes+3; b++ {
			w := slices.Contains(want, [2]int{a, b}) || slices.Contains(want, [2]int{b, a})
			if n.Parted(a, b) != w {
				t.Errorf("of %d nodes: Parted(%d, %d): %t", nodes, a, b, !w)
			}
		}
	}
	for _, a := range []int{lowest, highest, 1 << 32, -1 << 32} {
		if n.Parted(a, 0) || n.Parted(0, a) || n.Parted(a, a) {
			t.Errorf("of %d nodes: Parted of %d and 0: true", nodes, a)
		}
	}
}

// noNodes: numbers that are no node of a net of that many.
func noNodes(nodes int) []int {
	return []int{-1, -2, lowest, nodes, nodes + 1, api.MaxNodes, api.MaxNodes + 1, 1 << 32, highest}
}

func TestNew(t *testing.T) {
	for nodes := 1; nodes <= api.MaxNodes; nodes++ {
		n := fresh(t, nodes)
		checkRow(t, n)
		checkParted(t, n, nodes)
	}
	for _, nodes := range []int{0, -1, lowest, api.MaxNodes + 1, 1 << 32, 1<<32 + 1, highest} {
		if n, err := net.New(nodes); n != nil || err != api.ErrArg {
			t.Errorf("New(%d): %v, %d", nodes, n, err)
		}
	}
}

func TestNil(t *testing.T) {
	var n *net.Net
	for _, a := range []int{0, 1, 11, -1, 12, lowest, highest} {
		for _, b := range []int{0, 1, 11, -1, 12, lowest, highest} {
			if err := n.Part(a, b); err != api.ErrNil {
				t.Errorf("Part(%d, %d) of nil: %d", a, b, err)
			}
			if err := n.Join(a, b); err != api.ErrNil {
				t.Errorf("Join(%d, %d) of nil: %d", a, b, err)
			}
			for _, size := range []int{0, 1, api.MaxPacket + 1} {
				p := api.Packet{From: a, To: b, Body: make([]byte, size)}
				if err := n.Send(p); err != api.ErrNil {
					t.Errorf("Send of %d bytes from %d to %d of nil: %d", size, a, b, err)
				}
			}
		}
	}
	checkNothing(t, n, 0)
	checkParted(t, n, 0)
}

// Each of all nodes may send to each, itself too, and what is sent is behind all others, as it was.
func TestSend(t *testing.T) {
	for nodes := 1; nodes <= api.MaxNodes; nodes++ {
		n := fresh(t, nodes)
		var want []api.Packet
		for from := range nodes {
			for to := range nodes {
				p := packet(from, to, strconv.Itoa(from*100+to))
				send(t, n, p)
				want = append(want, p)
				checkRow(t, n, want...)
			}
		}
	}
}

func TestSendBodies(t *testing.T) {
	n := fresh(t, 2)
	var want []api.Packet
	for _, body := range [][]byte{nil, {}, {0}, {0, 0}, {255, 0, 'a'}, bytes.Repeat([]byte("xyz"), 300), bytes.Repeat([]byte{7}, api.MaxPacket-1), bytes.Repeat([]byte{8}, api.MaxPacket)} {
		p := api.Packet{From: 1, Body: body}
		send(t, n, p, p)
		want = append(want, p, p)
	}
	checkRow(t, n, want...)
}

func TestSendErrArg(t *testing.T) {
	for _, nodes := range []int{1, 2, 3, 7, api.MaxNodes - 1, api.MaxNodes} {
		n := fresh(t, nodes)
		send(t, n, packet(0, nodes-1, "a"))
		for _, bad := range noNodes(nodes) {
			for _, ends := range [][2]int{{bad, 0}, {0, bad}, {bad, nodes - 1}, {nodes - 1, bad}, {bad, bad}} {
				for _, size := range []int{0, 3, api.MaxPacket, api.MaxPacket + 1} {
					p := api.Packet{From: ends[0], To: ends[1], Body: make([]byte, size)}
					if err := n.Send(p); err != api.ErrArg {
						t.Errorf("of %d nodes: Send of %d bytes from %d to %d: %d", nodes, size, p.From, p.To, err)
					}
				}
			}
		}
		checkRow(t, n, packet(0, nodes-1, "a"))
	}
}

func TestSendErrLong(t *testing.T) {
	n := fresh(t, 2)
	for _, size := range []int{api.MaxPacket + 1, api.MaxPacket + 2, 2 * api.MaxPacket, 1 << 20} {
		if err := n.Send(api.Packet{To: 1, Body: make([]byte, size)}); err != api.ErrLong {
			t.Errorf("Send of %d bytes: %d", size, err)
		}
	}
	checkRow(t, n)
}

// full: a net of three nodes on which as many as may be are under way.
func full(t *testing.T) (*net.Net, []api.Packet) {
	t.Helper()
	return sentNumbered(t, api.MaxPackets), numbered(api.MaxPackets)
}

func TestSendErrFull(t *testing.T) {
	n, want := full(t)
	checkRow(t, n, want...)
	for range 3 {
		if err := n.Send(packet(0, 1, "more")); err != api.ErrFull {
			t.Errorf("Send, %d under way: %d", n.Len(), err)
		}
	}
	checkRow(t, n, want...)
	if !n.Drop(100) {
		t.Error("Drop(100)")
	}
	send(t, n, packet(0, 1, "more"))
	want = append(slices.Delete(want, 100, 101), packet(0, 1, "more"))
	checkRow(t, n, want...)
	if err := n.Send(packet(0, 1, "still more")); err != api.ErrFull {
		t.Errorf("Send, %d under way: %d", n.Len(), err)
	}
	checkRow(t, n, want...)
}

// The errors come in the order in which the chapter names them, and being parted is behind them all.
func TestSendErrorsInOrder(t *testing.T) {
	crowded, _ := full(t)
	part(t, crowded, 0, 1)
	empty := fresh(t, 3)
	part(t, empty, 0, 1)
	for _, x := range []struct {
		n    *net.Net
		to   int
		size int
		want api.Errno
	}{
		{crowded, 3, api.MaxPacket + 1, api.ErrArg},
		{crowded, -1, 1, api.ErrArg},
		{crowded, 1, api.MaxPacket + 1, api.ErrLong},
		{crowded, 2, api.MaxPacket + 1, api.ErrLong},
		{crowded, 1, api.MaxPacket, api.ErrFull},
		{crowded, 2, 0, api.ErrFull},
		{empty, 3, api.MaxPacket + 1, api.ErrArg},
		{empty, 1, api.MaxPacket + 1, api.ErrLong},
		{empty, 1, api.MaxPacket, api.OK},
		{empty, 1, 0, api.OK},
	} {
		before := x.n.Len()
		p := api.Packet{To: x.to, Body: make([]byte, x.size)}
		if err := x.n.Send(p); err != x.want || x.n.Len() != before {
			t.Errorf("%d under way, Send of %d bytes to %d: %d, %d under way, not %d", before, x.size, x.to, err, x.n.Len(), x.want)
		}
	}
}

// Of rows of all lengths each place is looked at, often: nothing changes.
func TestLook(t *testing.T) {
	for size := range 8 {
		n := sentNumbered(t, size)
		for range 3 {
			checkRow(t, n, numbered(size)...)
		}
	}
}

func TestTake(t *testing.T) {
	for size := range 8 {
		for at := range size {
			n := sentNumbered(t, size)
			want := numbered(size)
			if p, ok := n.Take(at); !ok || !same(p, want[at]) {
				t.Errorf("Take(%d) of %d: %v, %t", at, size, p, ok)
			}
			checkRow(t, n, slices.Delete(want, at, at+1)...)
		}
	}
}

func TestDrop(t *testing.T) {
	for size := range 8 {
		for at := range size {
			n := sentNumbered(t, size)
			if !n.Drop(at) {
				t.Errorf("Drop(%d) of %d", at, size)
			}
			checkRow(t, n, slices.Delete(numbered(size), at, at+1)...)
		}
	}
}

func TestTwice(t *testing.T) {
	for size := range 8 {
		for at := range size {
			n := sentNumbered(t, size)
			want := numbered(size)
			for range 3 {
				if !n.Twice(at) {
					t.Errorf("Twice(%d) of %d", at, size)
				}
				want = append(want, want[at])
				checkRow(t, n, want...)
			}
		}
	}
}

// Without room a packet is not doubled; with some it is, up to the last.
func TestTwiceFull(t *testing.T) {
	n, want := full(t)
	for _, at := range []int{0, 1, 255} {
		if n.Twice(at) {
			t.Errorf("Twice(%d), %d under way", at, n.Len())
		}
	}
	checkRow(t, n, want...)
	n.Take(0)
	if !n.Twice(254) || n.Twice(0) {
		t.Errorf("Twice, %d under way", n.Len())
	}
	checkRow(t, n, append(want[1:], want[255])...)
}

func TestBack(t *testing.T) {
	for size := range 8 {
		for at := range size {
			n := sentNumbered(t, size)
			want := numbered(size)
			if !n.Back(at) {
				t.Errorf("Back(%d) of %d", at, size)
			}
			late := want[at]
			checkRow(t, n, append(slices.Delete(want, at, at+1), late)...)
		}
	}
}

// The chapter's example: two are under way, and the one that is late is behind the other.
func TestBackOfTwo(t *testing.T) {
	n := fresh(t, 2)
	send(t, n, packet(0, 1, "a"), packet(0, 1, "b"))
	if !n.Back(0) || n.Len() != 2 {
		t.Errorf("behind Back(0) %d are under way", n.Len())
	}
	checkRow(t, n, packet(0, 1, "b"), packet(0, 1, "a"))
	for _, text := range []string{"b", "a"} {
		if p, ok := n.Take(0); !ok || !same(p, packet(0, 1, text)) {
			t.Errorf("Take(0): %v, %t, not %q", p, ok, text)
		}
	}
	if p, ok := n.Take(0); ok || !isZero(p) || n.Len() != 0 {
		t.Errorf("Take(0) behind all: %v, %t, %d under way", p, ok, n.Len())
	}
}

// A packet may be late however many are under way.
func TestBackFull(t *testing.T) {
	n, want := full(t)
	for _, at := range []int{0, 100, 255} {
		if !n.Back(at) {
			t.Errorf("Back(%d), %d under way", at, n.Len())
		}
		late := want[at]
		want = append(slices.Delete(want, at, at+1), late)
		checkRow(t, n, want...)
	}
}

// A row that was full may be emptied, from either end, and filled again.
func TestEmptyAgain(t *testing.T) {
	n, want := full(t)
	for range 3 {
		for len(want) > 0 {
			at := len(want) % 2 * (len(want) - 1)
			if p, ok := n.Take(at); !ok || !same(p, want[at]) {
				t.Fatalf("Take(%d): %v, %t, not %v", at, p, ok, want[at])
			}
			want = slices.Delete(want, at, at+1)
		}
		checkRow(t, n)
		want = numbered(api.MaxPackets)
		send(t, n, want...)
		checkRow(t, n, want...)
	}
}

// checkReach: packets between two of these are lost just where they are parted, whichever sends.
func checkReach(t *testing.T, n *net.Net, nodes int) {
	t.Helper()
	for a := range nodes {
		for b := range nodes {
			before := n.Len()
			send(t, n, packet(a, b, "x"))
			if lost := n.Len() == before; lost != n.Parted(a, b) {
				t.Errorf("from %d to %d: lost %t", a, b, lost)
			}
			if n.Len() > before && !n.Drop(before) {
				t.Errorf("Drop(%d)", before)
			}
		}
	}
}

// Each two of all nodes are parted and joined, by either's name first, and no others with them.
func TestPart(t *testing.T) {
	for nodes := 1; nodes <= api.MaxNodes; nodes++ {
		n := fresh(t, nodes)
		for a := range nodes {
			for b := range nodes {
				if a == b {
					continue
				}
				part(t, n, a, b)
				checkParted(t, n, nodes, [2]int{a, b})
				checkReach(t, n, nodes)
				part(t, n, b, a)
				checkParted(t, n, nodes, [2]int{a, b})
				join(t, n, b, a)
				checkParted(t, n, nodes)
				checkReach(t, n, nodes)
				join(t, n, a, b)
				checkParted(t, n, nodes)
			}
		}
	}
}

// Several pairs are parted at once, and each is joined alone.
func TestPartSeveral(t *testing.T) {
	n := fresh(t, 4)
	part(t, n, 0, 1)
	part(t, n, 3, 0)
	part(t, n, 2, 3)
	checkParted(t, n, 4, [2]int{0, 1}, [2]int{0, 3}, [2]int{2, 3})
	checkReach(t, n, 4)
	join(t, n, 1, 0)
	checkParted(t, n, 4, [2]int{0, 3}, [2]int{2, 3})
	part(t, n, 1, 2)
	join(t, n, 0, 3)
	checkParted(t, n, 4, [2]int{1, 2}, [2]int{2, 3})
	checkReach(t, n, 4)
}

func TestPartErrArg(t *testing.T) {
	for _, nodes := range []int{1, 2, 3, api.MaxNodes - 1, api.MaxNodes} {
		n := fresh(t, nodes)
		var parted [][2]int
		if nodes > 1 {
			part(t, n, 0, nodes-1)
			parted = append(parted, [2]int{0, nodes - 1})
		}
		var wrong [][2]int
		for _, bad := range noNodes(nodes) {
			wrong = append(wrong, [2]int{bad, 0}, [2]int{0, bad}, [2]int{bad, bad}, [2]int{nodes - 1, bad}, [2]int{bad, nodes - 1})
		}
		for a := range nodes {
			wrong = append(wrong, [2]int{a, a})
		}
		for _, w := range wrong {
			if err := n.Part(w[0], w[1]); err != api.ErrArg {
				t.Errorf("of %d nodes: Part(%d, %d): %d", nodes, w[0], w[1], err)
			}
			if err := n.Join(w[0], w[1]); err != api.ErrArg {
				t.Errorf("of %d nodes: Join(%d, %d): %d", nodes, w[0], w[1], err)
			}
		}
		checkParted(t, n, nodes, parted...)
		checkReach(t, n, nodes)
	}
}

// What is under way is not lost when its nodes are parted, and may be late, doubled and taken as before.
func TestUnderWayWhenParted(t *testing.T) {
	n := fresh(t, 3)
	a, b, c := packet(0, 1, "a"), packet(1, 0, "b"), packet(1, 2, "c")
	send(t, n, a, b, c)
	part(t, n, 0, 1)
	checkRow(t, n, a, b, c)
	send(t, n, packet(0, 1, "lost"), packet(1, 0, "lost too"))
	checkRow(t, n, a, b, c)
	if !n.Back(0) || !n.Twice(0) {
		t.Error("Back or Twice of what is under way between two that are parted")
	}
	checkRow(t, n, b, c, a, b)
	if p, ok := n.Take(2); !ok || !same(p, a) {
		t.Errorf("Take(2): %v, %t", p, ok)
	}
	join(t, n, 0, 1)
	checkRow(t, n, b, c, b)
	send(t, n, a)
	checkRow(t, n, b, c, b, a)
}

// Two nets know nothing of one another.
func TestNetsApart(t *testing.T) {
	n, other := fresh(t, 3), fresh(t, 3)
	send(t, n, numbered(5)...)
	part(t, n, 0, 1)
	checkRow(t, other)
	checkParted(t, other, 3)
	send(t, other, packet(0, 1, "x"))
	n.Take(0)
	checkRow(t, other, packet(0, 1, "x"))
	checkRow(t, n, numbered(5)[1:]...)
	join(t, other, 0, 1)
	checkParted(t, n, 3, [2]int{0, 1})
}

// What is handed in is neither changed nor kept, nor is the room behind it.
func TestHandedIn(t *testing.T) {
	n := fresh(t, 2)
	wide := []byte("aabbccddee")
	body := wide[2:4]
	send(t, n, api.Packet{To: 1, Body: body}, api.Packet{To: 1, Body: wide})
	n.Twice(0)
	n.Back(0)
	if p, _ := n.Take(1); !same(p, packet(0, 1, "bb")) {
		t.Errorf("Take(1): %v", p)
	}
	if string(wide) != "aabbccddee" {
		t.Errorf("what was handed in is %q", wide)
	}
	clear(wide)
	checkRow(t, n, packet(0, 1, "aabbccddee"), packet(0, 1, "bb"))
}

// spoil overwrites a list and the room behind it.
func spoil(b []byte) {
	b = b[:cap(b)]
	for i := range b {
		b[i] = '#'
	}
}

// What comes out is its taker's own, with the room behind it: no other one's, and not the net's.
func TestOutIsNew(t *testing.T) {
	n := fresh(t, 2)
	a, b := packet(0, 1, "a text of some length"), packet(1, 0, "another one")
	send(t, n, a, b)
	n.Twice(0)
	n.Twice(2)
	n.Back(0)
	row := []api.Packet{b, a, a, a}
	checkRow(t, n, row...)
	for at, w := range row {
		first, _ := n.Look(at)
		second, _ := n.Look(at)
		spoil(first.Body)
		if !same(second, w) {
			t.Errorf("two that Look(%d) gave share: %v", at, second)
		}
		spoil(second.Body)
		checkRow(t, n, row...)
	}
	for len(row) > 0 {
		last := len(row) - 1
		p, ok := n.Take(last)
		if !ok || !same(p, row[last]) {
			t.Errorf("Take(%d): %v, %t", last, p, ok)
		}
		spoil(p.Body)
		row = row[:last]
		checkRow(t, n, row...)
	}
}

// What was taken stays as it was, whatever the net does behind that.
func TestTakenStays(t *testing.T) {
	n := fresh(t, 3)
	var taken []api.Packet
	for round := range 5 {
		send(t, n, numbered(20)...)
		for range 20 {
			p, _ := n.Take(0)
			taken = append(taken, p)
		}
		for i, p := range taken {
			if !same(p, numbered(20)[i%20]) {
				t.Fatalf("round %d: the taken %d is %v", round, i, p)
			}
		}
	}
}

// Where only the first one is ever taken, packets come as they were sent: all of those whose nodes were not parted then.
func TestInOrder(t *testing.T) {
	draw := rand.New(rand.NewSource(6))
	for range 40 {
		n := fresh(t, 4)
		var sent, came []api.Packet
		for i := range 600 {
			a, b := draw.Intn(4), draw.Intn(4)
			switch draw.Intn(8) {
			default:
				p := packet(a, b, strconv.Itoa(i))
				lost := n.Parted(a, b)
				if err := n.Send(p); err == api.OK && !lost {
					sent = append(sent, p)
				}
			case 0, 1, 2:
				if p, ok := n.Take(0); ok {
					came = append(came, p)
				}
			case 3:
				n.Part(a, b)
			case 4:
				n.Join(a, b)
			}
		}
		for n.Len() > 0 {
			p, _ := n.Take(0)
			came = append(came, p)
		}
		if !slices.EqualFunc(sent, came, same) {
			t.Fatalf("sent %v, came %v", sent, came)
		}
	}
}
