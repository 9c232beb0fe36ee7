// Package bin is layer 1: see shared/doc/01-bin.md.
package bin

import (
	"bytes"
	"math/bits"

	"seawall/api"
)

const (
	bitsPerByte = 7    // of a number, in each byte of its form
	more        = 0x80 // is added to each byte but the last
	mostBytes   = 10   // of the form of a number of 64 bits
	mostTenth   = 1    // nine bytes have 63 of the 64 bits: one is left for the tenth
	fixedBytes  = 4
)

// PutUint: a number's bytes.
func PutUint(n uint64) []byte {
	b := make([]byte, uintBytes(n))
	at := 0
cut:
	for {
		switch {
		case n < more:
			b[at] = byte(n)
			break cut
		default:
			b[at] = byte(n) | more
			n >>= bitsPerByte
			at++
		}
	}
	return b
}

// uintBytes: how many bytes a number has; 0 has one too, though it has no bits.
func uintBytes(n uint64) int {
	return (bits.Len64(n|1) + bitsPerByte - 1) / bitsPerByte
}

// Uint: the number at a place, and the place behind it.
func Uint(b []byte, at int) (uint64, int, api.Errno) {
	if !inside(b, at) {
		return 0, 0, api.ErrArg
	}
	var n uint64
	count := 0
walk:
	for i, c := range b[at:] {
		switch {
		case i == mostBytes-1 && c > mostTenth, i > 0 && c == 0:
			return 0, 0, api.ErrForm
		case c < more:
			n |= uint64(c) << (i * bitsPerByte)
			count = i + 1
			break walk
		default:
			n |= uint64(c&^more) << (i * bitsPerByte)
		}
	}
	if count == 0 {
		return 0, 0, api.ErrShort
	}
	return n, at + count, api.OK
}

// inside: may a reading begin there? At the end too, where nothing is left.
func inside(b []byte, at int) bool {
	return at >= 0 && at <= len(b)
}

// PutInt: a number's bytes, with its sign.
func PutInt(n int64) []byte {
	u := uint64(n) << 1
	if n < 0 {
		// -2n - 1 is what turning all bits of 2n gives, also where 2n has no room.
		u = ^u
	}
	return PutUint(u)
}

// Int: the number at a place, with its sign.
func Int(b []byte, at int) (int64, int, api.Errno) {
	u, to, err := Uint(b, at)
	n := int64(u >> 1)
	if u&1 == 1 {
		n = ^n
	}
	return n, to, err
}

// PutFixed: four bytes.
func PutFixed(n uint32) []byte {
	return []byte{byte(n >> 24), byte(n >> 16), byte(n >> 8), byte(n)}
}

// Fixed: four bytes' number.
func Fixed(b []byte, at int) (uint32, int, api.Errno) {
	if !inside(b, at) {
		return 0, 0, api.ErrArg
	}
	if len(b)-at < fixedBytes {
		return 0, 0, api.ErrShort
	}
	n := uint32(0)
	for _, c := range b[at : at+fixedBytes] {
		n = n<<8 | uint32(c)
	}
	return n, at + fixedBytes, api.OK
}

// PutBytes: how many, and they.
func PutBytes(s []byte) []byte {
	return append(PutUint(uint64(len(s))), s...)
}

// Bytes: a text at a place.
func Bytes(b []byte, at int, most int) ([]byte, int, api.Errno) {
	n, from, err := Uint(b, at)
	if err != api.OK {
		return nil, 0, err
	}
	// Held against each other as numbers of 64 bits: what is said may be more than an int has room for.
	if n > uint64(max(most, 0)) {
		return nil, 0, api.ErrLong
	}
	if n > uint64(len(b)-from) {
		return nil, 0, api.ErrShort
	}
	to := from + int(n)
	return bytes.Clone(b[from:to]), to, api.OK
}
