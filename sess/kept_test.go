package sess

import (
	"testing"

	"seawall/api"
)

// What came is kept no more, and of a life that is over nothing is.
func TestReceiverKeepsNoMore(t *testing.T) {
	x, _ := NewReceiver(8)
	for n := uint64(8); n > 1; n-- {
		x.Hear(api.Seg{Life: 1, Seq: n})
	}
	if len(x.early) != 7 {
		t.Errorf("%d are kept, not 7", len(x.early))
	}
	x.Hear(api.Seg{Life: 1, Seq: 1})
	if len(x.early) != 0 {
		t.Errorf("all came, and %d are kept", len(x.early))
	}
	for n := range uint64(9) {
		x.Hear(api.Seg{Life: 1, Seq: n})
	}
	if len(x.early) != 0 {
		t.Errorf("all came again, and %d are kept", len(x.early))
	}
	for n := range uint64(100) {
		x.Hear(api.Seg{Life: 1, Seq: n + 10})
	}
	if len(x.early) != 7 {
		t.Errorf("of those behind a missing one %d are kept, not 7", len(x.early))
	}
	x.Hear(api.Seg{Life: 2, Seq: 3})
	if len(x.early) != 1 {
		t.Errorf("of a new life %d are kept, not 1", len(x.early))
	}
}

// What is known to have come is kept no more, nor in the room behind the queue; which stays small, however many go.
func TestSenderKeepsNoMore(t *testing.T) {
	x, _ := NewSender(1, 4, 1)
	seq := uint64(0)
	for range 2000 {
		for range 5 {
			x.Push([]byte("a"))
		}
		x.Tick()
		seq += 5
		x.Hear(api.Seg{Life: 1, Seq: seq, Ack: true})
		for _, p := range x.queue[:cap(x.queue)] {
			if p.body != nil {
				t.Fatalf("all came, and %q is kept", p.body)
			}
		}
	}
	if cap(x.queue) > 16 {
		t.Errorf("for five pieces there is room for %d", cap(x.queue))
	}
}
