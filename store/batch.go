package store

import (
	"slices"

	"seawall/api"
	"seawall/bin"
)

// What stands behind a key, in a batch's bytes.
const (
	hasValue = 0
	isGone   = 1
)

// Right: may it be a batch?
func Right(l []api.Change) api.Errno {
	if len(l) > api.MaxBatch || slices.ContainsFunc(l, wrong) {
		return api.ErrArg
	}
	return api.OK
}

// wrong: may a change stand in no batch?
func wrong(c api.Change) bool {
	switch {
	case c.Key == "", len(c.Key) > api.MaxKey:
		return true
	case c.Gone:
		return c.Value != ""
	}
	return len(c.Value) > api.MaxValue
}

// Encode: a batch's bytes.
func Encode(l []api.Change) ([]byte, api.Errno) {
	if err := Right(l); err != api.OK {
		return nil, err
	}
	b := bin.PutUint(uint64(len(l)))
	for _, c := range l {
		b = append(b, encodeChange(c)...)
	}
	if len(b) > api.MaxBody {
		return nil, api.ErrLong
	}
	return b, api.OK
}

// encodeChange: a change's bytes.
func encodeChange(c api.Change) []byte {
	key := bin.PutBytes([]byte(c.Key))
	if c.Gone {
		return append(key, bin.PutUint(isGone)...)
	}
	return slices.Concat(key, bin.PutUint(hasValue), bin.PutBytes([]byte(c.Value)))
}

// Decode: the batch of bytes.
func Decode(b []byte) ([]api.Change, api.Errno) {
	if len(b) > api.MaxBody {
		// Of so many bytes Encode writes no batch, and what is read must be written as the bytes were.
		return nil, api.ErrBatch
	}
	r := bin.New(b)
	n := r.Uint()
	if n > api.MaxBatch {
		// Refused ahead of the first change: any number may be said, whatever stands behind it.
		return nil, api.ErrBatch
	}
	var l []api.Change
	for range n {
		l = append(l, decodeChange(r))
	}
	if r.Err() != api.OK || r.Left() > 0 || Right(l) != api.OK {
		return nil, api.ErrBatch
	}
	return l, api.OK
}

// decodeChange: the change that a Reader stands at; if none is there, one that may stand in no batch, or the Reader has an error.
func decodeChange(r *bin.Reader) api.Change {
	c := api.Change{Key: string(r.Bytes(api.MaxKey))}
	switch r.Uint() {
	case hasValue:
		c.Value = string(r.Bytes(api.MaxValue))
	case isGone:
		c.Gone = true
	default:
		return api.Change{}
	}
	return c
}
