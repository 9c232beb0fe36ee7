package bin

import (
	"bytes"

	"seawall/api"
)

// Reader: see the chapter.
type Reader struct {
	left []byte // nothing with an error: of what stands there nobody is told any more
	err  api.Errno
}

// New: at the begin.
func New(b []byte) *Reader {
	// A copy: whoever handed b in may change it while the Reader is still read from.
	return &Reader{left: bytes.Clone(b)}
}

// Uint: the next number.
func (r *Reader) Uint() uint64 {
	if r.Err() != api.OK {
		return 0
	}
	n, to, err := Uint(r.left, 0)
	r.pass(to, err)
	return n
}

// Bytes: the next text.
func (r *Reader) Bytes(most int) []byte {
	if r.Err() != api.OK {
		return nil
	}
	s, to, err := Bytes(r.left, 0, most)
	r.pass(to, err)
	return s
}

// pass: what was read is behind the Reader, or it stops for good.
func (r *Reader) pass(to int, err api.Errno) {
	if err != api.OK {
		r.left, r.err = nil, err
		return
	}
	r.left = r.left[to:]
}

// Left: how many are left.
func (r *Reader) Left() int {
	if r == nil {
		return 0
	}
	return len(r.left)
}

// Err: the first error.
func (r *Reader) Err() api.Errno {
	if r == nil {
		return api.ErrNil
	}
	return r.err
}
