package bin_test

import (
	"bytes"
	"encoding/binary"
	"math"
	"testing"

	"seawall/api"
	"seawall/bin"
)

const (
	lowest  = math.MinInt
	highest = math.MaxInt
)

// places: where a reading of b may be asked to begin, all that may not be among them.
func places(b []byte) []int {
	at := []int{lowest, lowest + 1, -2, -1, len(b) + 1, len(b) + 2, highest - 1, highest}
	for i := range len(b) + 1 {
		at = append(at, i)
	}
	return at
}

// edges: the numbers at which a form grows by a bit, and those beside them.
func edges() []uint64 {
	l := []uint64{0}
	for i := range 64 {
		n := uint64(1) << i
		l = append(l, n-1, n, n+1, ^n, ^n+1, n|0x5555555555555555&(n-1))
	}
	return l
}

// join: rows of bytes, one behind the other.
func join(parts ...[]byte) []byte {
	return bytes.Join(parts, nil)
}

// same: repeats a byte.
func same(c byte, n int) []byte {
	return bytes.Repeat([]byte{c}, n)
}

func TestPutUintTable(t *testing.T) {
	for _, x := range []struct {
		n uint64
		s string
	}{
		{0, "\x00"},
		{1, "\x01"},
		{127, "\x7f"},
		{128, "\x80\x01"},
		{300, "\xac\x02"},
		{16383, "\xff\x7f"},
		{16384, "\x80\x80\x01"},
		{1<<63 - 1, "\xff\xff\xff\xff\xff\xff\xff\xff\x7f"},
		{1 << 63, "\x80\x80\x80\x80\x80\x80\x80\x80\x80\x01"},
		{1<<64 - 1, "\xff\xff\xff\xff\xff\xff\xff\xff\xff\x01"},
	} {
		if s := bin.PutUint(x.n); string(s) != x.s {
			t.Errorf("PutUint(%d): %x, not %x", x.n, s, x.s)
		}
	}
}

// The library's own numbers of seven bits a byte have the same form.
func TestPutUintIsTheLibrarysForm(t *testing.T) {
	for _, n := range edges() {
		if s := bin.PutUint(n); !bytes.Equal(s, binary.AppendUvarint(nil, n)) {
			t.Errorf("PutUint(%d): %x", n, s)
		}
	}
}

func TestUintReadsWhatWasPut(t *testing.T) {
	for _, n := range edges() {
		s := bin.PutUint(n)
		for _, front := range []string{"", "a", "\x80\x80\xff"} {
			for _, back := range []string{"", "\x00", "\x80", "\xff\xff"} {
				b := join([]byte(front), s, []byte(back))
				got, to, err := bin.Uint(b, len(front))
				if got != n || to != len(front)+len(s) || err != api.OK {
					t.Errorf("Uint(%x, %d): %d, %d, %d", b, len(front), got, to, err)
				}
			}
		}
	}
}

func TestUintErrors(t *testing.T) {
	for _, x := range []struct {
		b   []byte
		at  int
		err api.Errno
	}{
		{nil, -1, api.ErrArg},
		{nil, 1, api.ErrArg},
		{nil, lowest, api.ErrArg},
		{nil, highest, api.ErrArg},
		{[]byte("a"), 2, api.ErrArg},
		{[]byte("\x80\x00"), -1, api.ErrArg},
		{nil, 0, api.ErrShort},
		{[]byte("a"), 1, api.ErrShort},
		{[]byte("\x80"), 0, api.ErrShort},
		{[]byte("\x01\x80\xff"), 1, api.ErrShort},
		{same(0x80, 9), 0, api.ErrShort},
		{same(0xff, 9), 0, api.ErrShort},
		{same(0x80, 10), 0, api.ErrForm},
		{same(0xff, 10), 0, api.ErrForm},
		{same(0xff, 30), 0, api.ErrForm},
		{same(0xff, 30), 20, api.ErrForm},
		{same(0xff, 30), 21, api.ErrShort},
		{join(same(0xff, 9), []byte{0x02}), 0, api.ErrForm},
		{join(same(0xff, 9), []byte{0x03}), 0, api.ErrForm},
		{join(same(0x80, 9), []byte{0x7f}), 0, api.ErrForm},
		{join(same(0x80, 9), []byte{0x81, 0x00}), 0, api.ErrForm},
		{join(same(0x80, 9), []byte{0x00}), 0, api.ErrForm},
		{join(same(0xff, 9), []byte{0x00}), 0, api.ErrForm},
		{join(same(0xff, 10), []byte{0x01}), 0, api.ErrForm},
		{[]byte("\x80\x00"), 0, api.ErrForm},
		{[]byte("\xff\x00"), 0, api.ErrForm},
		{[]byte("\xff\xff\x00\x01"), 0, api.ErrForm},
	} {
		if n, to, err := bin.Uint(x.b, x.at); n != 0 || to != 0 || err != x.err {
			t.Errorf("Uint(%x, %d): %d, %d, %d, not %d", x.b, x.at, n, to, err, x.err)
		}
		if n, to, err := bin.Int(x.b, x.at); n != 0 || to != 0 || err != x.err {
			t.Errorf("Int(%x, %d): %d, %d, %d, not %d", x.b, x.at, n, to, err, x.err)
		}
	}
}

// plainUint tells what the chapter's words say of b's front, sentence by sentence.
func plainUint(b []byte) (uint64, int, api.Errno) {
	last := 0
	for last < len(b) && b[last] >= 128 {
		last++
	}
	if last >= len(b) && len(b) < 10 {
		return 0, 0, api.ErrShort
	}
	if last >= 10 || last == 9 && b[last] > 1 || last > 0 && b[last] == 0 {
		return 0, 0, api.ErrForm
	}
	n := uint64(0)
	for i := last; i >= 0; i-- {
		n = n*128 + uint64(b[i]%128)
	}
	return n, last + 1, api.OK
}

// checkUint holds Uint of front and b, behind front, against the plain words; and puts again what was read.
func checkUint(t *testing.T, front, b []byte) {
	t.Helper()
	whole := join(front, b)
	before := bytes.Clone(whole)
	n, to, err := plainUint(b)
	if err == api.OK {
		to += len(front)
	}
	got, place, told := bin.Uint(whole, len(front))
	if got != n || place != to || told != err {
		t.Errorf("Uint(%x, %d): %d, %d, %d, not %d, %d, %d", whole, len(front), got, place, told, n, to, err)
	}
	if told == api.OK && !bytes.Equal(bin.PutUint(got), whole[len(front):place]) {
		t.Errorf("Uint(%x, %d): %d, which is put as %x", whole, len(front), got, bin.PutUint(got))
	}
	if !bytes.Equal(whole, before) {
		t.Errorf("Uint changed %x into %x", before, whole)
	}
}

// rows: every row of at most so many of the bytes.
func rows(letters []byte, most int) [][]byte {
	all := [][]byte{{}}
	for from := 0; most > 0; most-- {
		to := len(all)
		for _, r := range all[from:to] {
			for _, c := range letters {
				all = append(all, join(r, []byte{c}))
			}
		}
		from = to
	}
	return all
}

func TestUintOfAllShortRows(t *testing.T) {
	letters := []byte{0x00, 0x01, 0x02, 0x7f, 0x80, 0x81, 0xff}
	for _, r := range rows(letters, 4) {
		checkUint(t, nil, r)
		checkUint(t, []byte{0x80}, r)
		for _, c := range []byte{0x80, 0xd5, 0xff} {
			for n := 5; n <= 11; n++ {
				checkUint(t, nil, join(same(c, n), r))
			}
		}
	}
	for c := range 256 {
		for d := range 256 {
			checkUint(t, nil, []byte{byte(c), byte(d)})
		}
	}
}

func TestPutIntTable(t *testing.T) {
	for _, x := range []struct {
		n int64
		s string
	}{
		{0, "\x00"},
		{-1, "\x01"},
		{1, "\x02"},
		{-2, "\x03"},
		{63, "\x7e"},
		{-64, "\x7f"},
		{64, "\x80\x01"},
		{-65, "\x81\x01"},
		{math.MaxInt64, "\xfe\xff\xff\xff\xff\xff\xff\xff\xff\x01"},
		{math.MinInt64, "\xff\xff\xff\xff\xff\xff\xff\xff\xff\x01"},
	} {
		if s := bin.PutInt(x.n); string(s) != x.s {
			t.Errorf("PutInt(%d): %x, not %x", x.n, s, x.s)
		}
		if n, to, err := bin.Int([]byte("z"+x.s+"z"), 1); n != x.n || to != len(x.s)+1 || err != api.OK {
			t.Errorf("Int(%x): %d, %d, %d", x.s, n, to, err)
		}
	}
}

func TestIntThereAndBack(t *testing.T) {
	for _, u := range edges() {
		n := int64(u)
		s := bin.PutInt(n)
		if !bytes.Equal(s, binary.AppendVarint(nil, n)) {
			t.Errorf("PutInt(%d): %x", n, s)
		}
		if got, to, err := bin.Int(join([]byte{0xff}, s, []byte{0xff}), 1); got != n || to != 1+len(s) || err != api.OK {
			t.Errorf("Int(%x): %d, %d, %d, not %d", s, got, to, err, n)
		}
		form := bin.PutUint(u)
		if got, _, err := bin.Int(form, 0); err != api.OK || !bytes.Equal(bin.PutInt(got), form) {
			t.Errorf("Int(%x): %d, %d, which is put as %x", form, got, err, bin.PutInt(got))
		}
	}
}

func TestFixedThereAndBack(t *testing.T) {
	if s := bin.PutFixed(258); string(s) != "\x00\x00\x01\x02" {
		t.Errorf("PutFixed(258): %x", s)
	}
	if s := bin.PutFixed(0xdeadbeef); string(s) != "\xde\xad\xbe\xef" {
		t.Errorf("PutFixed: %x", s)
	}
	for _, u := range edges() {
		n := uint32(u)
		s := bin.PutFixed(n)
		if !bytes.Equal(s, binary.BigEndian.AppendUint32(nil, n)) {
			t.Errorf("PutFixed(%d): %x", n, s)
		}
		if got, to, err := bin.Fixed(join([]byte{9, 9}, s, []byte{9}), 2); got != n || to != 6 || err != api.OK {
			t.Errorf("Fixed(%x): %d, %d, %d, not %d", s, got, to, err, n)
		}
	}
}

func TestFixedErrors(t *testing.T) {
	b := []byte{1, 2, 3, 4, 5}
	for _, x := range []struct {
		at  int
		err api.Errno
	}{
		{lowest, api.ErrArg}, {-1, api.ErrArg}, {6, api.ErrArg}, {highest, api.ErrArg},
		{2, api.ErrShort}, {4, api.ErrShort}, {5, api.ErrShort},
	} {
		if n, to, err := bin.Fixed(b, x.at); n != 0 || to != 0 || err != x.err {
			t.Errorf("Fixed(%x, %d): %d, %d, %d, not %d", b, x.at, n, to, err, x.err)
		}
	}
	if n, to, err := bin.Fixed(b, 1); n != 0x02030405 || to != 5 || err != api.OK {
		t.Errorf("Fixed at 1: %x, %d, %d", n, to, err)
	}
	if _, _, err := bin.Fixed(nil, 0); err != api.ErrShort {
		t.Errorf("Fixed of nothing: %d", err)
	}
}
