package sess

import (
	"bytes"
	"slices"

	"seawall/api"
)

const mostSpan = 1000

// Sender: see the chapter.
type Sender struct {
	life   uint64
	window int
	span   int
	tick   int
	came   uint64  // all pieces up to this number are known to have come
	queue  []piece // those behind it, in order
}

// piece: one that is not known to have come.
type piece struct {
	body []byte
	sent int // at which tick it was sent last; 0: not yet, as the first tick is 1
}

// NewSender: without pieces.
func NewSender(life uint64, window int, span int) (*Sender, api.Errno) {
	if !isWindow(window) || span < 1 || span > mostSpan {
		return nil, api.ErrArg
	}
	return &Sender{life: life, window: window, span: span}, api.OK
}

// isWindow: may so many pieces be under way at once?
func isWindow(n int) bool {
	return n >= 1 && n <= api.MaxWindow
}

// Push: one piece more.
func (x *Sender) Push(body []byte) api.Errno {
	switch {
	case x == nil:
		return api.ErrNil
	case len(body) > api.MaxPiece:
		return api.ErrLong
	case len(x.queue) >= api.MaxQueue:
		return api.ErrFull
	}
	x.queue = append(x.queue, piece{body: bytes.Clone(body)})
	return api.OK
}

// Tick: what goes now.
func (x *Sender) Tick() []api.Seg {
	if x == nil {
		return nil
	}
	x.tick++
	var l []api.Seg
	for i := range min(x.window, len(x.queue)) {
		p := &x.queue[i]
		if p.sent > 0 && x.tick-p.sent < x.span {
			continue
		}
		p.sent = x.tick
		l = append(l, api.Seg{Life: x.life, Seq: x.came + 1 + uint64(i), Body: bytes.Clone(p.body)})
	}
	return l
}

// Hear: up to which number all came.
func (x *Sender) Hear(s api.Seg) api.Errno {
	switch {
	case x == nil:
		return api.ErrNil
	case !right(s):
		return api.ErrArg
	case !s.Ack:
		return api.ErrKind
	case s.Life != x.life:
		return api.ErrOld
	case s.Seq > x.last():
		return api.ErrForm
	case s.Seq > x.came:
		// An answer that is late, or that comes again, says nothing new.
		x.queue = slices.Delete(x.queue, 0, int(s.Seq-x.came))
		x.came = s.Seq
	}
	return api.OK
}

// last: the number of the last piece; 0, if there was none.
func (x *Sender) last() uint64 {
	return x.came + uint64(len(x.queue))
}

// Left: how many.
func (x *Sender) Left() int {
	if x == nil {
		return 0
	}
	return len(x.queue)
}
