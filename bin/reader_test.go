package bin_test

import (
	"bytes"
	"testing"

	"seawall/api"
	"seawall/bin"
)

func TestReaderReadsInOrder(t *testing.T) {
	r := bin.New(join(bin.PutUint(300), bin.PutBytes([]byte("ab")), bin.PutBytes(nil), bin.PutUint(1<<64-1)))
	if r.Left() != 16 || r.Err() != api.OK {
		t.Errorf("new: %d, %d", r.Left(), r.Err())
	}
	if n := r.Uint(); n != 300 || r.Left() != 14 {
		t.Errorf("%d, %d left", n, r.Left())
	}
	if s := r.Bytes(2); string(s) != "ab" || r.Left() != 11 {
		t.Errorf("%q, %d left", s, r.Left())
	}
	if s := r.Bytes(-1); len(s) != 0 || r.Left() != 10 {
		t.Errorf("%q, %d left", s, r.Left())
	}
	if n := r.Uint(); n != 1<<64-1 || r.Left() != 0 || r.Err() != api.OK {
		t.Errorf("%d, %d left, %d", n, r.Left(), r.Err())
	}
	if n := r.Uint(); n != 0 || r.Err() != api.ErrShort {
		t.Errorf("at the end: %d, %d", n, r.Err())
	}
}

// stays: nothing more is read, whatever would stand there, and the first error is told.
func stays(t *testing.T, r *bin.Reader, err api.Errno) {
	t.Helper()
	for range 3 {
		if r.Err() != err || r.Left() != 0 || r.Uint() != 0 || len(r.Bytes(highest)) != 0 || len(r.Bytes(-1)) != 0 {
			t.Errorf("error %d, not %d, %d left", r.Err(), err, r.Left())
		}
	}
}

func TestReaderStaysAtTheFirstError(t *testing.T) {
	for _, x := range []struct {
		b   string
		err api.Errno
	}{
		{"", api.ErrShort},
		{"\x80", api.ErrShort},
		{"\x80\x00\x01a", api.ErrForm},
	} {
		r := bin.New([]byte(x.b))
		if n := r.Uint(); n != 0 {
			t.Errorf("Uint of %x: %d", x.b, n)
		}
		stays(t, r, x.err)
	}
	for _, x := range []struct {
		b    string
		most int
		err  api.Errno
	}{
		{"", 5, api.ErrShort},
		{"\x02a", 5, api.ErrShort},
		{"\x02abc", 1, api.ErrLong},
		{"\x01a\x01b", -1, api.ErrLong},
		{"\x80\x00\x01a", 5, api.ErrForm},
	} {
		r := bin.New([]byte(x.b))
		if s := r.Bytes(x.most); len(s) != 0 {
			t.Errorf("Bytes(%d) of %x: %x", x.most, x.b, s)
		}
		stays(t, r, x.err)
	}
}

// With an error nothing is left, although bytes stand where the Reader stopped.
func TestReaderLeftWithAnError(t *testing.T) {
	r := bin.New([]byte("\x05\x01x\x80\x00\x07"))
	if r.Uint() != 5 || string(r.Bytes(9)) != "x" || r.Left() != 3 {
		t.Errorf("%d left", r.Left())
	}
	if r.Uint() != 0 {
		t.Error("a number that is not in its shortest form was read")
	}
	stays(t, r, api.ErrForm)
}

func TestReaderOfNothing(t *testing.T) {
	for _, b := range [][]byte{nil, {}} {
		r := bin.New(b)
		if r == nil || r.Left() != 0 || r.Err() != api.OK {
			t.Errorf("%d left, %d", r.Left(), r.Err())
		}
	}
}

func TestNilReader(t *testing.T) {
	var r *bin.Reader
	for range 2 {
		if r.Uint() != 0 || len(r.Bytes(5)) != 0 || r.Left() != 0 || r.Err() != api.ErrNil {
			t.Errorf("%d left, %d", r.Left(), r.Err())
		}
	}
}

// What is handed in is neither kept nor changed, and what comes out is nobody else's.
func TestReaderSharesNothing(t *testing.T) {
	b := []byte("\x05\x02ab\x02cd")
	r, other := bin.New(b), bin.New(b)
	for i := range b {
		b[i] = 0xff
	}
	if n := r.Uint(); n != 5 {
		t.Fatalf("the Reader sees what was changed behind New: %d, %d", n, r.Err())
	}
	first := r.Bytes(9)
	first[0] = 'z'
	_ = append(first, "\x00\x00\x00"...)
	second := r.Bytes(9)
	if string(second) != "cd" || string(first) != "zb" {
		t.Errorf("%q, %q", first, second)
	}
	if !bytes.Equal(b, same(0xff, len(b))) {
		t.Errorf("%x", b)
	}
	if other.Uint() != 5 || string(other.Bytes(9)) != "ab" {
		t.Errorf("readers of the same bytes share what is kept: %d", other.Err())
	}
}

// checkReader reads b as the script says and holds each reading against Uint and Bytes at the place.
func checkReader(t *testing.T, b, script []byte) {
	t.Helper()
	r, at, first := bin.New(b), 0, api.OK
	for _, c := range script {
		most := int(int8(c)) >> 1
		var n uint64
		var s []byte
		to, err := 0, first
		switch {
		case first != api.OK:
		case c&1 == 0:
			n, to, err = bin.Uint(b, at)
		default:
			s, to, err = bin.Bytes(b, at, most)
		}
		left := len(b) - to
		if err != api.OK {
			left = 0
		}
		if c&1 == 0 {
			if got := r.Uint(); got != n {
				t.Errorf("%x at %d: %d, not %d", b, at, got, n)
			}
		} else if got := r.Bytes(most); !bytes.Equal(got, s) {
			t.Errorf("%x at %d, most %d: %x, not %x", b, at, most, got, s)
		}
		if r.Err() != err || r.Left() != left {
			t.Errorf("%x at %d: error %d, not %d; %d left, not %d", b, at, r.Err(), err, r.Left(), left)
		}
		at, first = to, err
	}
}

func TestReaderAsTheCallsTell(t *testing.T) {
	scripts := [][]byte{{0, 0, 0, 0, 0}, {7, 7, 7, 7, 7}, {0, 7, 0, 7}, {7, 0, 7, 0}, {1, 0, 3, 0}, {0xff, 0, 0, 7}}
	for _, b := range rows([]byte{0x00, 0x01, 0x02, 0x03, 0x80, 0xff}, 5) {
		for _, s := range scripts {
			checkReader(t, b, s)
		}
	}
}

func FuzzBin(f *testing.F) {
	f.Add([]byte("\xac\x02\x02ab"), []byte{0, 7})
	f.Add([]byte("\x80\x00"), []byte{0})
	f.Add(same(0xff, 10), []byte{7, 0})
	f.Fuzz(func(t *testing.T, b, script []byte) {
		checkUint(t, nil, b)
		checkReader(t, b, script)
		n, to, err := bin.Int(b, 0)
		if err == api.OK && !bytes.Equal(bin.PutInt(n), b[:to]) {
			t.Errorf("Int(%x): %d", b, n)
		}
		if s, to, err := bin.Bytes(b, 0, highest); err == api.OK && !bytes.Equal(bin.PutBytes(s), b[:to]) {
			t.Errorf("Bytes(%x): %x", b, s)
		}
		if n, to, err := bin.Fixed(b, 0); err == api.OK && !bytes.Equal(bin.PutFixed(n), b[:to]) {
			t.Errorf("Fixed(%x): %d", b, n)
		}
		if s, to, err := bin.Bytes(bin.PutBytes(b), 0, len(b)); err != api.OK || !bytes.Equal(s, b) || to != len(bin.PutBytes(b)) {
			t.Errorf("PutBytes(%x): %x, %d, %d", b, s, to, err)
		}
	})
}
