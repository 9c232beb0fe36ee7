package frame_test

import (
	"bytes"
	"encoding/binary"
	"hash/crc32"
	"math"
	"testing"

	"seawall/api"
	"seawall/frame"
)

const (
	lowest  = math.MinInt
	highest = math.MaxInt
)

// text: n bytes that differ, marks among them.
func text(n int) []byte {
	b := make([]byte, n)
	for i := range b {
		b[i] = byte(i*i + 7*i + 0xa7)
	}
	return b
}

// plainFrame tells a frame's bytes as the chapter's words do, whatever its size is.
func plainFrame(kind byte, body []byte) []byte {
	b := binary.BigEndian.AppendUint32([]byte{0xa7, kind}, uint32(len(body)))
	b = append(b, body...)
	return binary.BigEndian.AppendUint32(b, crc32.ChecksumIEEE(b))
}

// put: the bytes of a frame that may be.
func put(t *testing.T, kind byte, body []byte) []byte {
	t.Helper()
	b, err := frame.Put(kind, body)
	if err != api.OK {
		t.Fatalf("Put(%d) of %d bytes: %d", kind, len(body), err)
	}
	return b
}

// sameFrame: are they of the same kind and body?
func sameFrame(f, g api.Frame) bool {
	return f.Kind == g.Kind && bytes.Equal(f.Body, g.Body)
}

func TestPutTable(t *testing.T) {
	for _, x := range []struct {
		kind byte
		body string
		form string
	}{
		{0, "", "\xa7\x00\x00\x00\x00\x00\xb5\xdb\x80\xf5"},
		{1, "", "\xa7\x01\x00\x00\x00\x00\x88\xbb\xa9\x45"},
		{1, "a", "\xa7\x01\x00\x00\x00\x01\x61\xf7\x92\x81\xb4"},
		{1, "ab", "\xa7\x01\x00\x00\x00\x02\x61\x62\xbf\x03\xb4\xb4"},
	} {
		b, err := frame.Put(x.kind, []byte(x.body))
		if string(b) != x.form || err != api.OK {
			t.Errorf("Put(%d, %q): %x, %d, not %x", x.kind, x.body, b, err, x.form)
		}
	}
	if b, err := frame.Put(1, nil); string(b) != "\xa7\x01\x00\x00\x00\x00\x88\xbb\xa9\x45" || err != api.OK {
		t.Errorf("Put(1, nil): %x, %d", b, err)
	}
}

// What was put is read as it was, wherever it stands, and what is read is put as the bytes were.
func TestGetReadsWhatWasPut(t *testing.T) {
	for _, n := range []int{0, 1, 2, 10, 255, 256, 257, api.MaxPiece, api.MaxBody - 1, api.MaxBody} {
		for _, kind := range []byte{0, 1, 2, 0xa7, 0xff} {
			body := text(n)
			form := put(t, kind, body)
			if !bytes.Equal(form, plainFrame(kind, body)) || !bytes.Equal(body, text(n)) {
				t.Errorf("Put(%d) of %d bytes: %x", kind, n, form)
			}
			for _, front := range []string{"", "z", "\xa7", "\xa7\x01\x00\x00\x04"} {
				for _, back := range []string{"", "\x00", "\xa7"} {
					checkGet(t, bytes.Join([][]byte{[]byte(front), form, []byte(back)}, nil), len(front), api.Frame{Kind: kind, Body: body})
				}
			}
		}
	}
}

// checkGet: the frame f stands at the place of b, and is put as it stands there.
func checkGet(t *testing.T, b []byte, at int, f api.Frame) {
	t.Helper()
	before := bytes.Clone(b)
	got, to, err := frame.Get(b, at)
	if err != api.OK || !sameFrame(got, f) || to != at+len(f.Body)+10 {
		t.Errorf("Get(%x, %d): %x, %d, %d", b, at, got, to, err)
		return
	}
	if again := put(t, got.Kind, got.Body); !bytes.Equal(again, b[at:to]) {
		t.Errorf("Get(%x, %d): %x, which is put as %x", b, at, got, again)
	}
	if !bytes.Equal(b, before) {
		t.Errorf("Get changed %x into %x", before, b)
	}
}

func TestEachKind(t *testing.T) {
	for kind := range 256 {
		f := api.Frame{Kind: byte(kind), Body: []byte("xyz")}
		checkGet(t, put(t, f.Kind, f.Body), 0, f)
	}
}

func TestPutLong(t *testing.T) {
	for _, n := range []int{api.MaxBody + 1, api.MaxBody + 2, 2 * api.MaxBody, 65536 + 1} {
		if b, err := frame.Put(1, text(n)); len(b) != 0 || err != api.ErrLong {
			t.Errorf("Put of %d bytes: %x, %d", n, b, err)
		}
	}
}

func TestGetErrors(t *testing.T) {
	a := plainFrame(1, []byte("a"))
	spoilt := func(at int, by byte) []byte {
		b := bytes.Clone(a)
		b[at] ^= by
		return b
	}
	long := plainFrame(1, text(api.MaxBody+1))
	for _, x := range []struct {
		b   []byte
		at  int
		err api.Errno
	}{
		{nil, -1, api.ErrArg},
		{nil, 1, api.ErrArg},
		{a, -1, api.ErrArg},
		{a, lowest, api.ErrArg},
		{a, 12, api.ErrArg},
		{a, highest, api.ErrArg},
		{nil, 0, api.ErrShort},
		{a, 11, api.ErrShort},
		{a, 1, api.ErrMark},
		{a, 10, api.ErrMark}, // fewer than six, but no mark either
		{[]byte{0xa6}, 0, api.ErrMark},
		{[]byte{0x27}, 0, api.ErrMark},
		{spoilt(0, 0x01), 0, api.ErrMark},
		{[]byte{0xa7}, 0, api.ErrShort},
		{a[:5], 0, api.ErrShort},
		{[]byte{0xa7, 1, 0xff, 0xff, 0xff}, 0, api.ErrShort}, // whatever is said by then
		{append(bytes.Clone(a), a[:5]...), 11, api.ErrShort},
		{[]byte{0xa7, 1, 0x00, 0x00, 0x04, 0x01}, 0, api.ErrLong}, // also where it is short
		{[]byte{0xa7, 1, 0x00, 0x01, 0x00, 0x00}, 0, api.ErrLong},
		{[]byte{0xa7, 1, 0x01, 0x00, 0x00, 0x00}, 0, api.ErrLong},
		{[]byte{0xa7, 1, 0x7f, 0xff, 0xff, 0xff}, 0, api.ErrLong},
		{[]byte{0xa7, 1, 0x80, 0x00, 0x00, 0x00}, 0, api.ErrLong},
		{[]byte{0xa7, 1, 0xff, 0xff, 0xff, 0xff}, 0, api.ErrLong},
		{long, 0, api.ErrLong}, // also where its sum is right
		{[]byte{0xa7, 1, 0x00, 0x00, 0x04, 0x00}, 0, api.ErrShort},
		{a[:6], 0, api.ErrShort},
		{a[:7], 0, api.ErrShort},
		{a[:10], 0, api.ErrShort},
		{spoilt(6, 0x80)[:10], 0, api.ErrShort}, // a sum is not looked at till all of it is there
		{spoilt(1, 0x01), 0, api.ErrSum},
		{spoilt(6, 0x01), 0, api.ErrSum},
		{spoilt(7, 0x80), 0, api.ErrSum},
		{spoilt(10, 0x01), 0, api.ErrSum},
		{append(spoilt(5, 0x03), 0), 0, api.ErrSum}, // two bytes of a body are said
	} {
		if f, to, err := frame.Get(x.b, x.at); !sameFrame(f, api.Frame{}) || to != 0 || err != x.err {
			t.Errorf("Get(%x, %d): %x, %d, %d, not %d", x.b, x.at, f, to, err, x.err)
		}
	}
}

func TestEachTurnedBitIsTold(t *testing.T) {
	for _, n := range []int{0, 1, 40, api.MaxBody} {
		whole := put(t, 2, text(n))
		for i := range whole {
			for bit := range 8 {
				b := bytes.Clone(whole)
				b[i] ^= 1 << bit
				want := api.ErrSum
				switch {
				case i == 0:
					want = api.ErrMark
				case i > 1 && i < 6:
					_, _, want = plainGet(b)
				}
				if f, to, err := frame.Get(b, 0); !sameFrame(f, api.Frame{}) || to != 0 || err != want || err == api.OK {
					t.Errorf("the bit %d of the byte %d of %d: %d, %d, not %d", bit, i, len(whole), to, err, want)
				}
			}
		}
	}
}

// plainGet tells what the chapter's words say of the front of b, word by word.
func plainGet(b []byte) (api.Frame, int, api.Errno) {
	if len(b) == 0 {
		return api.Frame{}, 0, api.ErrShort
	}
	if b[0] != 0xa7 {
		return api.Frame{}, 0, api.ErrMark
	}
	if len(b) < 6 {
		return api.Frame{}, 0, api.ErrShort
	}
	n := uint64(binary.BigEndian.Uint32(b[2:]))
	if n > 1024 {
		return api.Frame{}, 0, api.ErrLong
	}
	if uint64(len(b)) < 6+n+4 {
		return api.Frame{}, 0, api.ErrShort
	}
	if binary.BigEndian.Uint32(b[6+n:]) != crc32.ChecksumIEEE(b[:6+n]) {
		return api.Frame{}, 0, api.ErrSum
	}
	return api.Frame{Kind: b[1], Body: b[6 : 6+n]}, int(6 + n + 4), api.OK
}

// checkPlain holds Get at each place of b, and outside, against the plain words.
func checkPlain(t *testing.T, b []byte) {
	t.Helper()
	before := bytes.Clone(b)
	for at := range len(b) + 1 {
		want, behind, told := plainGet(b[at:])
		if told == api.OK {
			behind += at
		}
		f, to, err := frame.Get(b, at)
		if !sameFrame(f, want) || to != behind || err != told {
			t.Errorf("Get(%x, %d): %x, %d, %d, not %x, %d, %d", b, at, f, to, err, want, behind, told)
		}
	}
	for _, at := range []int{lowest, -2, -1, len(b) + 1, len(b) + 2, highest} {
		if f, to, err := frame.Get(b, at); !sameFrame(f, api.Frame{}) || to != 0 || err != api.ErrArg {
			t.Errorf("Get(%x, %d): %x, %d, %d", b, at, f, to, err)
		}
	}
	if !bytes.Equal(b, before) {
		t.Errorf("Get changed %x into %x", before, b)
	}
}

// What comes out is new memory, and what was handed in is not kept.
func TestFramesShareNothing(t *testing.T) {
	body := append(make([]byte, 0, 64), "ab"...)
	one, two := put(t, 1, body), put(t, 1, body)
	want := bytes.Clone(two)
	_ = append(one, 0xee)
	for i := range one {
		one[i]++
	}
	if !bytes.Equal(two, want) || string(body[:4]) != "ab\x00\x00" {
		t.Errorf("%x, %q", two, body[:4])
	}
	body[0] = 'z'
	if !bytes.Equal(two, want) {
		t.Errorf("a frame sees what was changed behind Put: %x", two)
	}

	b := append(bytes.Clone(want), want...)
	f, _, _ := frame.Get(b, 0)
	g, _, _ := frame.Get(b, 0)
	_ = append(f.Body, 0xee, 0xee, 0xee)
	f.Body[0] = 'y'
	if string(g.Body) != "ab" || !bytes.Equal(b, append(bytes.Clone(want), want...)) {
		t.Errorf("%q, %x", g.Body, b)
	}
	b[6] = 'x'
	if string(g.Body) != "ab" || string(f.Body) != "yb" {
		t.Errorf("a body sees what was changed behind Get: %q, %q", g.Body, f.Body)
	}
}
