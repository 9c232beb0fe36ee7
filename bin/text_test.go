package bin_test

import (
	"bytes"
	"testing"

	"seawall/api"
	"seawall/bin"
)

func TestPutBytesTable(t *testing.T) {
	for _, x := range []struct{ s, form string }{
		{"", "\x00"},
		{"a", "\x01a"},
		{"ab", "\x02ab"},
		{"\x00\xff", "\x02\x00\xff"},
	} {
		if b := bin.PutBytes([]byte(x.s)); string(b) != x.form {
			t.Errorf("PutBytes(%x): %x, not %x", x.s, b, x.form)
		}
	}
	if b := bin.PutBytes(nil); string(b) != "\x00" {
		t.Errorf("PutBytes(nil): %x", b)
	}
}

func TestBytesReadsWhatWasPut(t *testing.T) {
	for _, n := range []int{0, 1, 2, 126, 127, 128, 129, 300, api.MaxBytes, 16383, 16384} {
		s := same(0xa5, n)
		form := bin.PutBytes(s)
		if !bytes.Equal(form, join(bin.PutUint(uint64(n)), s)) {
			t.Errorf("PutBytes of %d bytes: %d", n, len(form))
		}
		for _, most := range []int{n, n + 1, highest} {
			got, to, err := bin.Bytes(join([]byte("zz"), form, []byte("z")), 2, most)
			if !bytes.Equal(got, s) || to != 2+len(form) || err != api.OK {
				t.Errorf("Bytes of %d, most %d: %d, %d, %d", n, most, len(got), to, err)
			}
		}
	}
}

func TestBytesErrors(t *testing.T) {
	ends := []byte("\x02abc")
	for _, x := range []struct {
		b    []byte
		at   int
		most int
		err  api.Errno
	}{
		{ends, -1, 5, api.ErrArg},
		{ends, 5, 5, api.ErrArg},
		{ends, lowest, -1, api.ErrArg},
		{ends, highest, -1, api.ErrArg},
		{ends, 4, 5, api.ErrShort},
		{[]byte("\x80"), 0, -1, api.ErrShort},
		{[]byte("\x82\x00ab"), 0, 5, api.ErrForm},
		{same(0xff, 10), 0, 5, api.ErrForm},
		{ends, 0, 1, api.ErrLong},
		{ends, 0, 0, api.ErrLong},
		{ends, 0, -1, api.ErrLong},
		{ends, 0, lowest, api.ErrLong},
		{[]byte("\x05abc"), 0, 4, api.ErrLong},
		{[]byte("\x04abc"), 0, 4, api.ErrShort},
		{[]byte("\x04abc"), 0, highest, api.ErrShort},
		{[]byte("\x01"), 0, 1, api.ErrShort},
		{bin.PutUint(1<<64 - 1), 0, highest, api.ErrLong},
		{bin.PutUint(1 << 63), 0, highest, api.ErrLong},
		{bin.PutUint(1<<63 - 1), 0, highest, api.ErrShort},
		{bin.PutUint(1 << 32), 0, 1 << 32, api.ErrShort},
	} {
		if s, to, err := bin.Bytes(x.b, x.at, x.most); len(s) != 0 || to != 0 || err != x.err {
			t.Errorf("Bytes(%x, %d, %d): %x, %d, %d, not %d", x.b, x.at, x.most, s, to, err, x.err)
		}
	}
}

// A most below 0 counts as 0: no bytes may still be said.
func TestBytesOfNoneWhateverMost(t *testing.T) {
	for _, most := range []int{lowest, -1, 0, 1, highest} {
		if s, to, err := bin.Bytes([]byte("\x00ab"), 0, most); len(s) != 0 || to != 1 || err != api.OK {
			t.Errorf("most %d: %x, %d, %d", most, s, to, err)
		}
	}
}

// What comes out is new memory, and what goes in stays as it was.
func TestBytesSharesNothing(t *testing.T) {
	b := []byte("\x02abc\x01d")
	s, _, _ := bin.Bytes(b, 0, 5)
	again, _, _ := bin.Bytes(b, 0, 5)
	s[0] = 'z'
	_ = append(s, "zzz"...)
	if string(b) != "\x02abc\x01d" || string(again) != "ab" {
		t.Errorf("%q, %q", b, again)
	}
	b[1] = 'y'
	if string(again) != "ab" || string(s) != "zb" {
		t.Errorf("%q, %q", again, s)
	}
}

func TestPutsShareNothing(t *testing.T) {
	text := append(make([]byte, 0, 64), "ab"...)
	form := bin.PutBytes(text)
	form[1] = 'z'
	_ = append(form, "zzz"...)
	if string(text) != "ab" || string(text[:4]) != "ab\x00\x00" {
		t.Errorf("%q", text[:4])
	}
	for _, put := range []func() []byte{
		func() []byte { return bin.PutUint(300) },
		func() []byte { return bin.PutInt(300) },
		func() []byte { return bin.PutFixed(300) },
		func() []byte { return bin.PutBytes(text) },
	} {
		one, two := put(), put()
		want := bytes.Clone(two)
		one[0]++
		_ = append(one, 0xee)
		if !bytes.Equal(two, want) || !bytes.Equal(put(), want) {
			t.Errorf("%x, %x, not %x", two, put(), want)
		}
	}
}

// No call panics, wherever it is asked to begin, and each leaves what it was given.
func TestAnyInput(t *testing.T) {
	for _, r := range rows([]byte{0x00, 0x01, 0x05, 0x80, 0xff}, 4) {
		for _, b := range [][]byte{r, join(same(0xff, 8), r)} {
			before := bytes.Clone(b)
			for _, at := range places(b) {
				n, to, err := bin.Uint(b, at)
				checkResult(t, b, at, to, err, n == 0)
				i, to, err := bin.Int(b, at)
				checkResult(t, b, at, to, err, i == 0)
				f, to, err := bin.Fixed(b, at)
				checkResult(t, b, at, to, err, f == 0)
				for _, most := range []int{lowest, -1, 0, 1, 5, highest} {
					s, to, err := bin.Bytes(b, at, most)
					checkResult(t, b, at, to, err, len(s) == 0)
				}
			}
			if !bytes.Equal(b, before) {
				t.Errorf("%x became %x", before, b)
			}
		}
	}
}

// checkResult: with an error all else is 0; else the place is behind the one that was asked of, within the bytes.
func checkResult(t *testing.T, b []byte, at, to int, err api.Errno, nothing bool) {
	t.Helper()
	outside := at < 0 || at > len(b)
	switch {
	case outside != (err == api.ErrArg):
		t.Errorf("%x at %d: %d", b, at, err)
	case err != api.OK && (to != 0 || !nothing):
		t.Errorf("%x at %d: error %d, and a result behind which is %d", b, at, err, to)
	case err == api.OK && (to <= at || to > len(b)):
		t.Errorf("%x at %d: the place %d", b, at, to)
	}
}
