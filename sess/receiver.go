package sess

import (
	"bytes"

	"seawall/api"
)

// Receiver: see the chapter.
type Receiver struct {
	window int
	life   uint64
	came   uint64            // all pieces up to this number came
	early  map[uint64][]byte // those that wait for one ahead of them, by their numbers
}

// NewReceiver: of which nothing came.
func NewReceiver(window int) (*Receiver, api.Errno) {
	if !isWindow(window) {
		return nil, api.ErrArg
	}
	return &Receiver{window: window, early: map[uint64][]byte{}}, api.OK
}

// Hear: a piece.
func (x *Receiver) Hear(s api.Seg) ([][]byte, api.Seg, api.Errno) {
	if err := x.refuse(s); err != api.OK {
		return nil, api.Seg{}, err
	}
	if s.Life > x.life {
		x.life, x.came = s.Life, 0
		clear(x.early)
	}
	if x.wants(s.Seq) {
		x.early[s.Seq] = bytes.Clone(s.Body)
	}
	l := x.take()
	return l, api.Seg{Life: x.life, Seq: x.came, Ack: true}, api.OK
}

// refuse: why a segment is not heard.
func (x *Receiver) refuse(s api.Seg) api.Errno {
	switch {
	case x == nil:
		return api.ErrNil
	case !right(s):
		return api.ErrArg
	case s.Ack:
		return api.ErrKind
	case s.Life < x.life:
		return api.ErrOld
	}
	return api.OK
}

// wants: is a piece to be kept? Not if it came or is kept already, nor if too many are missing ahead of it.
func (x *Receiver) wants(seq uint64) bool {
	if seq <= x.came || seq-x.came > uint64(x.window) {
		return false
	}
	_, kept := x.early[seq]
	return !kept
}

// take: the pieces that are next, as far as they are kept; they are kept no more.
func (x *Receiver) take() [][]byte {
	var l [][]byte
	for {
		next := x.came + 1
		body, ok := x.early[next]
		if !ok {
			return l
		}
		delete(x.early, next)
		x.came = next
		l = append(l, body)
	}
}

// Got: a life, and up to which number all came.
func (x *Receiver) Got() (uint64, uint64) {
	if x == nil {
		return 0, 0
	}
	return x.life, x.came
}
