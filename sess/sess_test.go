package sess_test

import (
	"bytes"
	"encoding/binary"
	"hash/crc32"
	"math"
	"slices"
	"testing"

	"seawall/api"
	"seawall/frame"
	"seawall/sess"
)

const (
	lowest  = math.MinInt
	highest = math.MaxInt
	topmost = math.MaxUint64
)

// framed: a frame's bytes, by the words of layer 2.
func framed(kind byte, body []byte) []byte {
	b := append([]byte{0xa7, kind}, binary.BigEndian.AppendUint32(nil, uint32(len(body)))...)
	b = append(b, body...)
	return binary.BigEndian.AppendUint32(b, crc32.ChecksumIEEE(b))
}

// numbers: the bytes of numbers, one behind the other.
func numbers(l ...uint64) []byte {
	var b []byte
	for _, n := range l {
		b = binary.AppendUvarint(b, n)
	}
	return b
}

// filled: so many bytes.
func filled(size int) []byte {
	return bytes.Repeat([]byte{'x'}, size)
}

// piece: a segment of a piece.
func piece(life, seq uint64, text string) api.Seg {
	return api.Seg{Life: life, Seq: seq, Body: []byte(text)}
}

// ack: a segment that says up to which number all came.
func ack(life, seq uint64) api.Seg {
	return api.Seg{Life: life, Seq: seq, Ack: true}
}

// same: are two segments alike?
func same(s, o api.Seg) bool {
	return s.Life == o.Life && s.Seq == o.Seq && s.Ack == o.Ack && bytes.Equal(s.Body, o.Body)
}

// isZero: is it a segment without anything?
func isZero(s api.Seg) bool {
	return same(s, api.Seg{})
}

// segs: what are segments, from the least to the greatest.
func segs() []api.Seg {
	var l []api.Seg
	for _, life := range []uint64{0, 1, 127, 128, 300, 1 << 32, topmost - 1, topmost} {
		l = append(l, ack(life, 0))
		for _, seq := range []uint64{1, 2, 127, 128, 1 << 40, topmost} {
			l = append(l, ack(life, seq))
			for _, body := range [][]byte{nil, {}, {0}, {0xa7, 3}, filled(999), filled(1000)} {
				l = append(l, api.Seg{Life: life, Seq: seq, Body: body})
			}
		}
	}
	return l
}

// noSegs: what are none.
func noSegs() []api.Seg {
	return []api.Seg{
		{},
		{Life: 7},
		{Body: []byte("x")},
		{Life: topmost, Body: filled(1001)},
		{Seq: 1, Body: filled(1001)},
		{Life: 1, Seq: 1, Body: filled(1002)},
		{Life: 1, Seq: topmost, Body: filled(1 << 17)},
		{Ack: true, Body: []byte("x")},
		{Life: 1, Seq: 1, Ack: true, Body: []byte{0}},
		{Life: 1, Seq: 1, Ack: true, Body: filled(1000)},
		{Life: 1, Seq: 1, Ack: true, Body: filled(1001)},
	}
}

func TestBytes(t *testing.T) {
	for _, s := range segs() {
		kind := byte(3)
		if s.Ack {
			kind = 4
		}
		want := framed(kind, append(numbers(s.Life, s.Seq), s.Body...))
		if b, err := sess.Bytes(s); err != api.OK || !bytes.Equal(b, want) {
			t.Errorf("Bytes(%v): %x, %d, not %x", s, b, err, want)
		}
	}
}

// An Ack has no Body, whether that is nil or empty.
func TestBytesOfEmptyBody(t *testing.T) {
	b, err := sess.Bytes(api.Seg{Life: 5, Seq: 6, Ack: true, Body: []byte{}})
	if want := framed(4, []byte{5, 6}); err != api.OK || !bytes.Equal(b, want) {
		t.Errorf("%x, %d, not %x", b, err, want)
	}
}

func TestBytesErrArg(t *testing.T) {
	for _, s := range noSegs() {
		if b, err := sess.Bytes(s); err != api.ErrArg || len(b) != 0 {
			t.Errorf("Bytes of life %d, seq %d, ack %t and %d bytes: %x, %d", s.Life, s.Seq, s.Ack, len(s.Body), b, err)
		}
	}
}

// What is written is read as it was.
func TestParse(t *testing.T) {
	for _, s := range segs() {
		b, _ := sess.Bytes(s)
		if o, err := sess.Parse(b); err != api.OK || !same(o, s) {
			t.Errorf("Parse of %v's bytes: %v, %d", s, o, err)
		}
	}
}

// checkParse: of bytes there is that error, and nothing else.
func checkParse(t *testing.T, b []byte, want api.Errno) {
	t.Helper()
	if s, err := sess.Parse(b); err != want || !isZero(s) {
		t.Errorf("Parse(%x): %v, %d, not %d", b, s, err, want)
	}
}

// Bytes that are a frame, but of no segment.
func TestParseErrForm(t *testing.T) {
	tooGreat := []byte{0xff, 0xff, 0xff, 0xff, 0xff, 0xff, 0xff, 0xff, 0xff, 2}
	for _, body := range [][]byte{
		nil,
		{1},       // no Seq
		{0x80},    // a Life that is torn
		{1, 0x80}, // a Seq that is
		{0x80, 0}, // a Life that is longer than it must be
		{0x81, 0, 1},
		{1, 0x81, 0}, // such a Seq
		{1, 0x81, 0x80, 0, 'x'},
		tooGreat,
		append(tooGreat, 1),
		append([]byte{1}, tooGreat...),
	} {
		checkParse(t, framed(3, body), api.ErrForm)
		checkParse(t, framed(4, body), api.ErrForm)
	}
	for _, life := range []uint64{0, 1, topmost} {
		checkParse(t, framed(3, numbers(life, 0)), api.ErrForm)
		checkParse(t, framed(3, append(numbers(life, 0), 'x')), api.ErrForm)
		checkParse(t, framed(3, append(numbers(life, 1), filled(1001)...)), api.ErrForm)
		checkParse(t, framed(4, append(numbers(life, 0), 'x')), api.ErrForm)
		checkParse(t, framed(4, append(numbers(life, 1), 0)), api.ErrForm)
	}
	// As many bytes as a frame may have are more than a piece.
	checkParse(t, framed(3, append(numbers(1, 1), filled(1022)...)), api.ErrForm)
	checkParse(t, framed(4, append(numbers(1, 1), filled(1022)...)), api.ErrForm)
}

func TestParseKinds(t *testing.T) {
	for kind := range 256 {
		b := framed(byte(kind), numbers(1, 2))
		s, err := sess.Parse(b)
		switch {
		case kind != 3 && kind != 4:
			checkParse(t, b, api.ErrForm)
		case err != api.OK || !same(s, api.Seg{Life: 1, Seq: 2, Ack: kind == 4}):
			t.Errorf("kind %d: %v, %d", kind, s, err)
		}
	}
}

// Whatever stands behind the frame: nothing may.
func TestParseMore(t *testing.T) {
	for _, s := range []api.Seg{piece(1, 2, "x"), ack(1, 2), {Life: 1, Seq: 1, Body: filled(1000)}} {
		b, _ := sess.Bytes(s)
		checkParse(t, append(slices.Clone(b), 0), api.ErrForm)
		checkParse(t, append(slices.Clone(b), b...), api.ErrForm)
		checkParse(t, append(slices.Clone(b), make([]byte, 1<<16)...), api.ErrForm)
	}
}

// The frame's errors come first, and are its own.
func TestParseFrameErrors(t *testing.T) {
	for _, s := range []api.Seg{piece(1, 2, "x"), piece(300, 1, ""), ack(1, 0), ack(1<<40, 300)} {
		b, _ := sess.Bytes(s)
		for to := range b {
			checkParse(t, b[:to], api.ErrShort)
		}
		for bit := range len(b) * 8 {
			spoilt := slices.Clone(b)
			spoilt[bit/8] ^= 1 << (bit % 8)
			_, _, err := frame.Get(spoilt, 0)
			if err == api.OK {
				t.Fatalf("%x is a frame", spoilt)
			}
			checkParse(t, spoilt, err)
			// Nor does it help that more stands behind it, but for what was short.
			spoilt = append(spoilt, 0)
			_, _, err = frame.Get(spoilt, 0)
			checkParse(t, spoilt, err)
		}
	}
	checkParse(t, nil, api.ErrShort)
	checkParse(t, []byte{0}, api.ErrMark)
	checkParse(t, []byte{0xa7, 3, 0, 0, 4, 1}, api.ErrLong)
	wrongSum := framed(9, nil)
	wrongSum[len(wrongSum)-1]++
	checkParse(t, append(wrongSum, 0), api.ErrSum)
}

// What is handed in is neither changed nor kept, and what comes out is its taker's own.
func TestSegmentsNotShared(t *testing.T) {
	wide := []byte("aabbccdd")
	s := api.Seg{Life: 1, Seq: 2, Body: wide[2:4]}
	b, _ := sess.Bytes(s)
	again, _ := sess.Bytes(s)
	want := framed(3, []byte("\x01\x02bb"))
	spoil(again)
	if string(wide) != "aabbccdd" || !bytes.Equal(b, want) {
		t.Errorf("%q, %x", wide, b)
	}
	one, _ := sess.Parse(b)
	two, _ := sess.Parse(b)
	spoil(one.Body)
	if !bytes.Equal(b, want) || !same(two, piece(1, 2, "bb")) {
		t.Errorf("%x, %v", b, two)
	}
	spoil(b)
	if !same(two, piece(1, 2, "bb")) {
		t.Errorf("%v", two)
	}
}

// spoil overwrites a list and the room behind it.
func spoil(b []byte) {
	b = b[:cap(b)]
	for i := range b {
		b[i] = '#'
	}
}
