package sess_test

import (
	"slices"
	"strconv"
	"testing"

	"seawall/api"
	"seawall/sess"
)

// receiver: a new one.
func receiver(t *testing.T, window int) *sess.Receiver {
	t.Helper()
	x, err := sess.NewReceiver(window)
	if x == nil || err != api.OK {
		t.Fatalf("NewReceiver(%d): %v, %d", window, x, err)
	}
	return x
}

// numbered: a piece that has its number as its text.
func numbered(life, seq uint64) api.Seg {
	return piece(life, seq, strconv.FormatUint(seq, 10))
}

// checkGot: its life, and up to which number all came.
func checkGot(t *testing.T, x *sess.Receiver, life, came uint64) {
	t.Helper()
	if l, c := x.Got(); l != life || c != came {
		t.Errorf("Got: %d, %d, not %d, %d", l, c, life, came)
	}
}

// hear: a receiver hears of a piece; these texts are answered, and up to which number all came.
func hear(t *testing.T, x *sess.Receiver, s api.Seg, came uint64, texts ...string) {
	t.Helper()
	l, a, err := x.Hear(s)
	if err != api.OK || !same(a, ack(s.Life, came)) {
		t.Errorf("Hear(%v): %v, %d, not an Ack of %d", s, a, err, came)
	}
	if !slices.EqualFunc(l, texts, func(b []byte, text string) bool { return string(b) == text }) {
		t.Errorf("Hear(%v): %q, not %q", s, l, texts)
	}
	checkGot(t, x, s.Life, came)
}

// refused: a receiver answers an error, and nothing else.
func refused(t *testing.T, x *sess.Receiver, s api.Seg, want api.Errno) {
	t.Helper()
	if l, a, err := x.Hear(s); err != want || len(l) != 0 || !isZero(a) {
		t.Errorf("Hear(%v): %v, %v, %d, not %d", s, l, a, err, want)
	}
}

func TestNewReceiver(t *testing.T) {
	for _, window := range []int{1, 2, 63, 64} {
		x := receiver(t, window)
		checkGot(t, x, 0, 0)
		hear(t, x, numbered(0, 1), 1, "1")
	}
	for _, window := range []int{0, -1, lowest, 65, 1 << 32, 1<<32 + 1, highest} {
		if x, err := sess.NewReceiver(window); x != nil || err != api.ErrArg {
			t.Errorf("NewReceiver(%d): %v, %d", window, x, err)
		}
	}
}

func TestNilReceiver(t *testing.T) {
	var x *sess.Receiver
	for _, s := range append(noSegs(), piece(0, 1, "x"), piece(7, 1, "x"), ack(0, 0)) {
		refused(t, x, s, api.ErrNil)
	}
	checkGot(t, x, 0, 0)
}

func TestReceiverInOrder(t *testing.T) {
	x := receiver(t, 1)
	for n := uint64(1); n < 300; n++ {
		hear(t, x, numbered(5, n), n, strconv.FormatUint(n, 10))
	}
}

// Pieces of all sizes come as they were.
func TestReceiverBodies(t *testing.T) {
	x := receiver(t, 8)
	for i, body := range [][]byte{nil, {}, {0}, []byte("abc"), filled(999), filled(1000)} {
		s := api.Seg{Life: 1, Seq: uint64(i) + 1, Body: body}
		hear(t, x, s, s.Seq, string(body))
	}
}

// A piece that comes early waits for those ahead of it; then all come at once.
func TestReceiverEarly(t *testing.T) {
	x := receiver(t, 4)
	hear(t, x, numbered(1, 3), 0)
	hear(t, x, numbered(1, 2), 0)
	hear(t, x, numbered(1, 4), 0)
	hear(t, x, numbered(1, 1), 4, "1", "2", "3", "4")
	hear(t, x, numbered(1, 6), 4)
	hear(t, x, numbered(1, 8), 4)
	hear(t, x, numbered(1, 5), 6, "5", "6")
	hear(t, x, numbered(1, 7), 8, "7", "8")
	hear(t, x, numbered(1, 9), 9, "9")
}

// Empty pieces that come early are pieces too.
func TestReceiverEarlyEmpty(t *testing.T) {
	x := receiver(t, 4)
	hear(t, x, piece(1, 2, ""), 0)
	hear(t, x, piece(1, 2, "x"), 0)
	hear(t, x, piece(1, 1, ""), 2, "", "")
}

// What came, or is kept already, is let go, whatever its body; which is still the first one's.
func TestReceiverAgain(t *testing.T) {
	x := receiver(t, 4)
	hear(t, x, piece(1, 1, "a"), 1, "a")
	hear(t, x, piece(1, 1, "a"), 1)
	hear(t, x, piece(1, 1, "other"), 1)
	hear(t, x, piece(1, 3, "c"), 1)
	hear(t, x, piece(1, 3, "c"), 1)
	hear(t, x, piece(1, 3, "other"), 1)
	hear(t, x, piece(1, 2, "b"), 3, "b", "c")
	for seq := uint64(1); seq <= 3; seq++ {
		hear(t, x, piece(1, seq, "other"), 3)
	}
	hear(t, x, piece(1, 4, "d"), 4, "d")
}

// In each window, wherever it stands, the last piece is kept, and what is behind it is let go.
func TestReceiverWindow(t *testing.T) {
	for _, window := range []uint64{1, 2, 3, 63, 64} {
		for came := range uint64(4) {
			x := receiver(t, int(window))
			for n := uint64(1); n <= came; n++ {
				hear(t, x, numbered(2, n), n, strconv.FormatUint(n, 10))
			}
			for _, far := range []uint64{came + window + 1, came + window + 2, 1 << 32, 1<<63 + 1, topmost - 1, topmost} {
				hear(t, x, numbered(2, far), came)
			}
			var want []string
			for n := came + window; n > came+1; n-- {
				hear(t, x, numbered(2, n), came)
				want = append([]string{strconv.FormatUint(n, 10)}, want...)
			}
			want = append([]string{strconv.FormatUint(came+1, 10)}, want...)
			hear(t, x, numbered(2, came+1), came+window, want...)
			// What was let go was not kept.
			last := came + window + 1
			hear(t, x, numbered(2, last), last, strconv.FormatUint(last, 10))
		}
	}
}

// A new life begins without pieces, and nothing of an elder one is kept.
func TestReceiverNewLife(t *testing.T) {
	x := receiver(t, 4)
	hear(t, x, piece(0, 1, "0a"), 1, "0a")
	hear(t, x, piece(0, 3, "0c"), 1)
	hear(t, x, piece(1, 2, "1b"), 0)
	hear(t, x, piece(1, 1, "1a"), 2, "1a", "1b")
	hear(t, x, piece(1, 4, "1d"), 2)
	hear(t, x, piece(9, 3, "9c"), 0)
	hear(t, x, piece(9, 1, "9a"), 1, "9a")
	hear(t, x, piece(9, 2, "9b"), 3, "9b", "9c")
	hear(t, x, piece(9, 4, "9d"), 4, "9d")
	hear(t, x, piece(topmost, 1, "a"), 1, "a")
	for _, life := range []uint64{0, 1, 8, 9, topmost - 1} {
		for _, seq := range []uint64{1, 2, 5, topmost} {
			refused(t, x, piece(life, seq, "old"), api.ErrOld)
		}
	}
	checkGot(t, x, topmost, 1)
	hear(t, x, piece(topmost, 2, "b"), 2, "b")
}

// A piece that is let go begins a new life as another one does.
func TestReceiverNewLifeFarPiece(t *testing.T) {
	x := receiver(t, 2)
	hear(t, x, numbered(0, 1), 1, "1")
	hear(t, x, numbered(1, 3), 0)
	hear(t, x, numbered(1, 1), 1, "1")
	hear(t, x, numbered(2, topmost), 0)
	refused(t, x, numbered(1, 2), api.ErrOld)
}

// The errors come in the order in which the chapter names them, and change nothing: no life begins, and nothing is kept.
func TestReceiverErrors(t *testing.T) {
	x := receiver(t, 4)
	hear(t, x, numbered(5, 1), 1, "1")
	hear(t, x, numbered(5, 3), 1)
	for _, life := range []uint64{0, 4, 5, 6, topmost} {
		for _, s := range noSegs() {
			s.Life = life
			refused(t, x, s, api.ErrArg)
		}
		for _, seq := range []uint64{0, 1, 2, topmost} {
			refused(t, x, ack(life, seq), api.ErrKind)
		}
		if life < 5 {
			refused(t, x, numbered(life, 2), api.ErrOld)
		}
	}
	refused(t, x, api.Seg{Life: 5, Seq: 2, Body: filled(1001)}, api.ErrArg)
	checkGot(t, x, 5, 1)
	hear(t, x, numbered(5, 2), 3, "2", "3")
}

// What is handed in is neither changed nor kept, and what comes out is its taker's own.
func TestReceiverNotShared(t *testing.T) {
	x := receiver(t, 4)
	wide := []byte("aabbccdd")
	hear(t, x, api.Seg{Life: 1, Seq: 2, Body: wide[2:4]}, 0)
	hear(t, x, api.Seg{Life: 1, Seq: 3, Body: wide}, 0)
	one := []byte("one")
	if string(wide) != "aabbccdd" {
		t.Errorf("Hear made it %q", wide)
	}
	spoil(wide)
	l, _, _ := x.Hear(api.Seg{Life: 1, Seq: 1, Body: one})
	if len(l) != 3 {
		t.Fatalf("answered are %q", l)
	}
	for i, want := range []string{"one", "bb", "aabbccdd"} {
		if string(l[i]) != want {
			t.Errorf("the %d-th is %q, not %q", i, l[i], want)
		}
		spoil(l[i])
	}
	if string(one) != "one" {
		t.Errorf("what was handed in shares with what came out: %q", one)
	}
	clear(l[:cap(l)])
	hear(t, x, piece(1, 4, "four"), 4, "four")
}

// Two receivers know nothing of one another.
func TestReceiversApart(t *testing.T) {
	x, other := receiver(t, 4), receiver(t, 4)
	hear(t, x, numbered(3, 2), 0)
	checkGot(t, other, 0, 0)
	hear(t, other, numbered(3, 1), 1, "1")
	checkGot(t, x, 3, 0)
}
