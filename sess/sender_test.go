package sess_test

import (
	"bytes"
	"slices"
	"strconv"
	"testing"

	"seawall/api"
	"seawall/sess"
)

// sender: a new one.
func sender(t *testing.T, life uint64, window, span int) *sess.Sender {
	t.Helper()
	x, err := sess.NewSender(life, window, span)
	if x == nil || err != api.OK {
		t.Fatalf("NewSender(%d, %d, %d): %v, %d", life, window, span, x, err)
	}
	return x
}

// push: all go well.
func push(t *testing.T, x *sess.Sender, texts ...string) {
	t.Helper()
	for _, s := range texts {
		if err := x.Push([]byte(s)); err != api.OK {
			t.Fatalf("Push(%q): %d", s, err)
		}
	}
}

// pushNumbered: so many pieces, which have their numbers as texts.
func pushNumbered(t *testing.T, x *sess.Sender, from, to uint64) {
	t.Helper()
	for n := from; n <= to; n++ {
		push(t, x, strconv.FormatUint(n, 10))
	}
}

// checkTick: just these pieces are sent, which have their numbers as texts.
func checkTick(t *testing.T, x *sess.Sender, life uint64, want ...uint64) {
	t.Helper()
	l := x.Tick()
	if len(l) != len(want) {
		t.Errorf("%d are sent, %v, not %v", len(l), l, want)
		return
	}
	for i, n := range want {
		if !same(l[i], piece(life, n, strconv.FormatUint(n, 10))) {
			t.Errorf("sent is %v, not the piece %d", l[i], n)
		}
	}
}

// checkLeft: so many are not known to have come.
func checkLeft(t *testing.T, x *sess.Sender, want int) {
	t.Helper()
	if x.Left() != want {
		t.Errorf("%d are left, not %d", x.Left(), want)
	}
}

// checkHear: the answer of a sender.
func checkHear(t *testing.T, x *sess.Sender, s api.Seg, want api.Errno) {
	t.Helper()
	if err := x.Hear(s); err != want {
		t.Errorf("Hear(%v): %d, not %d", s, err, want)
	}
}

func TestNewSender(t *testing.T) {
	for _, life := range []uint64{0, 1, topmost} {
		for _, window := range []int{1, 2, 63, 64} {
			for _, span := range []int{1, 2, 999, 1000} {
				x := sender(t, life, window, span)
				checkLeft(t, x, 0)
				checkTick(t, x, life)
				pushNumbered(t, x, 1, 1)
				checkTick(t, x, life, 1)
			}
		}
	}
}

func TestNewSenderErrArg(t *testing.T) {
	wrong := []int{0, -1, lowest, highest, 1 << 32, 1<<32 + 1}
	check := func(window, span int) {
		t.Helper()
		if x, err := sess.NewSender(1, window, span); x != nil || err != api.ErrArg {
			t.Errorf("NewSender(1, %d, %d): %v, %d", window, span, x, err)
		}
	}
	for _, bad := range wrong {
		check(bad, 1)
		check(1, bad)
		check(bad, bad)
	}
	check(65, 1)
	check(65, 1000)
	check(1, 1001)
	check(64, 1001)
	check(65, 1001)
}

func TestNilSender(t *testing.T) {
	var x *sess.Sender
	for _, body := range [][]byte{nil, filled(1000), filled(1001)} {
		if err := x.Push(body); err != api.ErrNil {
			t.Errorf("Push of %d bytes to nil: %d", len(body), err)
		}
	}
	for _, s := range append(noSegs(), piece(0, 1, "x"), ack(0, 0), ack(1, 1)) {
		checkHear(t, x, s, api.ErrNil)
	}
	checkTick(t, x, 0)
	checkLeft(t, x, 0)
}

// Pieces of all sizes go as they were; each has the next number.
func TestPush(t *testing.T) {
	x := sender(t, 9, 64, 1)
	bodies := [][]byte{nil, {}, {0}, []byte("abc"), filled(999), filled(1000)}
	for i, body := range bodies {
		if err := x.Push(body); err != api.OK {
			t.Errorf("Push of %d bytes: %d", len(body), err)
		}
		checkLeft(t, x, i+1)
	}
	for i, s := range x.Tick() {
		if !same(s, api.Seg{Life: 9, Seq: uint64(i) + 1, Body: bodies[i]}) {
			t.Errorf("the %d-th that is sent: %v", i, s)
		}
	}
}

func TestPushErrLong(t *testing.T) {
	x := sender(t, 1, 2, 3)
	for _, size := range []int{1001, 1002, 1024, 1 << 20} {
		if err := x.Push(filled(size)); err != api.ErrLong {
			t.Errorf("Push of %d bytes: %d", size, err)
		}
	}
	checkLeft(t, x, 0)
	pushNumbered(t, x, 1, 1)
	checkTick(t, x, 1, 1)
}

// MaxQueue pieces may be there, sent or not; once some came, there is room for as many.
func TestPushErrFull(t *testing.T) {
	x := sender(t, 1, 64, 1000)
	pushNumbered(t, x, 1, 128)
	checkFull := func() {
		t.Helper()
		for range 2 {
			if err := x.Push(nil); err != api.ErrFull {
				t.Errorf("Push of one more: %d", err)
			}
		}
		if err := x.Push(filled(1000)); err != api.ErrFull {
			t.Errorf("Push of a long one more: %d", err)
		}
		if err := x.Push(filled(1001)); err != api.ErrLong {
			t.Errorf("Push of one more that is too long: %d", err)
		}
		checkLeft(t, x, 128)
	}
	checkFull()
	x.Tick()
	checkFull()
	checkHear(t, x, ack(1, 0), api.OK)
	checkFull()
	checkHear(t, x, ack(1, 2), api.OK)
	checkLeft(t, x, 126)
	pushNumbered(t, x, 129, 130)
	checkFull()
	checkTick(t, x, 1, 65, 66)
	checkHear(t, x, ack(1, 130), api.OK)
	pushNumbered(t, x, 131, 258)
	checkFull()
}

// Of each window the first pieces go, and no others till those came.
func TestTickWindow(t *testing.T) {
	for _, window := range []int{1, 2, 3, 63, 64} {
		x := sender(t, 4, window, 1000)
		pushNumbered(t, x, 1, 100)
		l := x.Tick()
		if len(l) != window || l[window-1].Seq != uint64(window) {
			t.Errorf("window %d: %d are sent", window, len(l))
		}
		checkTick(t, x, 4)
		checkHear(t, x, ack(4, 1), api.OK)
		checkTick(t, x, 4, uint64(window)+1)
		checkTick(t, x, 4)
	}
}

// A piece goes again when span ticks are over since it went last, not earlier and not later.
func TestTickSpan(t *testing.T) {
	for _, span := range []int{1, 2, 3, 7, 999, 1000} {
		x := sender(t, 4, 2, span)
		for range 3 {
			checkTick(t, x, 4)
		}
		pushNumbered(t, x, 1, 3)
		for range 3 {
			checkTick(t, x, 4, 1, 2)
			for range span - 1 {
				checkTick(t, x, 4)
			}
		}
	}
}

// Each piece has its own span, from the tick at which it went.
func TestTickEachItsOwn(t *testing.T) {
	x := sender(t, 1, 3, 3)
	pushNumbered(t, x, 1, 1)
	checkTick(t, x, 1, 1)
	pushNumbered(t, x, 2, 2)
	checkTick(t, x, 1, 2)
	checkTick(t, x, 1)
	pushNumbered(t, x, 3, 4)
	checkTick(t, x, 1, 1, 3)
	checkTick(t, x, 1, 2)
	checkHear(t, x, ack(1, 1), api.OK)
	checkTick(t, x, 1, 4)
	checkTick(t, x, 1, 3)
	checkTick(t, x, 1, 2)
	checkTick(t, x, 1, 4)
}

// Only calls of Tick are ticks.
func TestOnlyTicksCount(t *testing.T) {
	x := sender(t, 1, 2, 2)
	pushNumbered(t, x, 1, 1)
	checkTick(t, x, 1, 1)
	for range 10 {
		checkHear(t, x, ack(1, 0), api.OK)
		x.Left()
		x.Push(filled(1001))
	}
	checkTick(t, x, 1)
	checkTick(t, x, 1, 1)
}

func TestSenderHear(t *testing.T) {
	x := sender(t, 7, 3, 2)
	pushNumbered(t, x, 1, 5)
	checkTick(t, x, 7, 1, 2, 3)
	checkHear(t, x, ack(7, 0), api.OK)
	checkLeft(t, x, 5)
	checkHear(t, x, ack(7, 2), api.OK)
	checkLeft(t, x, 3)
	// What is late, or comes again, takes nothing back.
	for _, seq := range []uint64{0, 1, 2} {
		checkHear(t, x, ack(7, seq), api.OK)
		checkLeft(t, x, 3)
	}
	checkTick(t, x, 7, 4, 5)
	checkTick(t, x, 7, 3)
	checkHear(t, x, ack(7, 5), api.OK)
	checkLeft(t, x, 0)
	checkTick(t, x, 7)
	checkHear(t, x, ack(7, 5), api.OK)
	checkHear(t, x, ack(7, 0), api.OK)
	pushNumbered(t, x, 6, 6)
	checkTick(t, x, 7, 6)
	checkLeft(t, x, 1)
}

// Pieces may be known to have come that this sender did not send yet.
func TestSenderHearOfUnsent(t *testing.T) {
	x := sender(t, 7, 1, 2)
	pushNumbered(t, x, 1, 3)
	checkHear(t, x, ack(7, 2), api.OK)
	checkLeft(t, x, 1)
	checkTick(t, x, 7, 3)
}

// The errors come in the order in which the chapter names them, and change nothing.
func TestSenderHearErrors(t *testing.T) {
	x := sender(t, 7, 2, 1)
	check := func(last uint64, left int) {
		t.Helper()
		for _, s := range noSegs() {
			checkHear(t, x, s, api.ErrArg)
			s.Life = 7
			checkHear(t, x, s, api.ErrArg)
		}
		for _, life := range []uint64{0, 6, 7, 8, topmost} {
			for _, seq := range []uint64{1, last, last + 1, topmost} {
				checkHear(t, x, piece(life, max(seq, 1), ""), api.ErrKind)
				if life != 7 {
					checkHear(t, x, ack(life, seq), api.ErrOld)
				}
			}
			if life != 7 {
				checkHear(t, x, ack(life, 0), api.ErrOld)
			}
		}
		for _, seq := range []uint64{last + 1, last + 2, last + 128, 1 << 32, 1<<63 + 1, topmost} {
			checkHear(t, x, ack(7, seq), api.ErrForm)
		}
		checkLeft(t, x, left)
	}
	check(0, 0)
	checkTick(t, x, 7)
	pushNumbered(t, x, 1, 3)
	check(3, 3)
	checkTick(t, x, 7, 1, 2)
	check(3, 3)
	checkTick(t, x, 7, 1, 2)
	checkHear(t, x, ack(7, 1), api.OK)
	check(3, 2)
	checkTick(t, x, 7, 2, 3)
	checkHear(t, x, ack(7, 3), api.OK)
	check(3, 0)
	pushNumbered(t, x, 4, 4)
	check(4, 1)
	checkTick(t, x, 7, 4)
}

// The greatest life, and a nought, are lives as others.
func TestSenderLives(t *testing.T) {
	for _, life := range []uint64{0, topmost} {
		x := sender(t, life, 2, 1)
		pushNumbered(t, x, 1, 1)
		checkTick(t, x, life, 1)
		checkHear(t, x, ack(^life, 1), api.ErrOld)
		checkHear(t, x, ack(life, 1), api.OK)
		checkLeft(t, x, 0)
	}
}

// What is handed in is neither changed nor kept, and what comes out is its taker's own.
func TestSenderNotShared(t *testing.T) {
	wide := []byte("aabbccdd")
	x := sender(t, 1, 2, 1)
	x.Push(wide[2:4])
	x.Push(wide)
	if string(wide) != "aabbccdd" {
		t.Errorf("Push made it %q", wide)
	}
	spoil(wide)
	want := []api.Seg{piece(1, 1, "bb"), piece(1, 2, "aabbccdd")}
	for range 3 {
		l, again := x.Tick(), x.Tick()
		for i := range l {
			spoil(l[i].Body)
		}
		clear(l[:cap(l)])
		if !slices.EqualFunc(again, want, same) {
			t.Errorf("sent are %v", again)
		}
	}
	answer := api.Seg{Life: 1, Seq: 1, Ack: true, Body: make([]byte, 0, 3)}
	checkHear(t, x, answer, api.OK)
	if !bytes.Equal(answer.Body[:3], []byte{0, 0, 0}) {
		t.Errorf("Hear made the room behind the body %v", answer.Body[:3])
	}
}

// Two senders know nothing of one another.
func TestSendersApart(t *testing.T) {
	x, other := sender(t, 1, 2, 1), sender(t, 1, 2, 1)
	pushNumbered(t, x, 1, 2)
	checkTick(t, other, 1)
	checkLeft(t, other, 0)
	pushNumbered(t, other, 1, 1)
	checkHear(t, x, ack(1, 2), api.OK)
	checkLeft(t, other, 1)
	checkTick(t, other, 1, 1)
}
