package frame_test

import (
	"bytes"
	"testing"

	"seawall/api"
	"seawall/frame"
)

// row: frames of many kinds and sizes, and where each ends.
func row(t *testing.T) (frames []api.Frame, b []byte, ends []int) {
	t.Helper()
	for i, n := range []int{1, 0, 0, 5, 300, 2, api.MaxBody, 11} {
		f := api.Frame{Kind: byte(i * 40), Body: text(n)}
		frames = append(frames, f)
		b = append(b, put(t, f.Kind, f.Body)...)
		ends = append(ends, len(b))
	}
	return frames, b, ends
}

// checkScan: b begins with those frames alone, of n bytes.
func checkScan(t *testing.T, b []byte, frames []api.Frame, n int) {
	t.Helper()
	before := bytes.Clone(b)
	got, bytesOf := frame.Scan(b)
	if len(got) != len(frames) || bytesOf != n {
		t.Errorf("Scan of %d bytes: %d frames, %d, not %d, %d", len(b), len(got), bytesOf, len(frames), n)
		return
	}
	for i, f := range got {
		if !sameFrame(f, frames[i]) {
			t.Errorf("the frame %d: %x, not %x", i, f, frames[i])
		}
	}
	if !bytes.Equal(b, before) {
		t.Errorf("Scan changed %x into %x", before, b)
	}
}

func TestScanOfNothing(t *testing.T) {
	for _, b := range [][]byte{nil, {}, {0}, {0xa7}, []byte("abc"), make([]byte, 100)} {
		checkScan(t, b, nil, 0)
	}
}

// Cut anywhere, those are scanned that are whole.
func TestScanOfAllCuts(t *testing.T) {
	frames, b, ends := row(t)
	whole, n := 0, 0
	for cut := range len(b) + 1 {
		if whole < len(ends) && ends[whole] == cut {
			n = cut
			whole++
		}
		checkScan(t, b[:cut], frames[:whole], n)
	}
	if whole != len(frames) {
		t.Errorf("%d of %d frames", whole, len(frames))
	}
}

// Behind the first frame that is refused nothing is scanned, though whole ones stand there.
func TestScanStopsAtTheFirstRefused(t *testing.T) {
	frames, b, ends := row(t)
	for i, end := range ends {
		spoilt := bytes.Clone(b)
		spoilt[end-1] ^= 0x10
		from := 0
		if i > 0 {
			from = ends[i-1]
		}
		checkScan(t, spoilt, frames[:i], from)
		spoilt = bytes.Join([][]byte{b[:end], {0x00}, b[end:]}, nil)
		checkScan(t, spoilt, frames[:i+1], end)
	}
	checkScan(t, append([]byte{0x00}, b...), nil, 0)
	long := plainFrame(1, text(api.MaxBody+1))
	checkScan(t, bytes.Join([][]byte{b[:ends[0]], long, b}, nil), frames[:1], ends[0])
}

func TestScanSharesNothing(t *testing.T) {
	b := bytes.Repeat(plainFrame(1, []byte("ab")), 3)
	before := bytes.Clone(b)
	one, _ := frame.Scan(b)
	two, _ := frame.Scan(b)
	_ = append(one[0].Body, 0xee, 0xee, 0xee)
	one[0].Body[0] = 'z'
	_ = append(one[:1], api.Frame{Kind: 9})
	if !bytes.Equal(b, before) || string(one[2].Body) != "ab" {
		t.Errorf("%x, %q", b, one[2].Body)
	}
	clear(b)
	for i, f := range two {
		if f.Kind != 1 || string(f.Body) != "ab" {
			t.Errorf("the frame %d: %d, %q", i, f.Kind, f.Body)
		}
	}
}

// plainSeek: the least place from at on at which the plain words have no error.
func plainSeek(b []byte, at int) int {
	for i := range b {
		if _, _, err := plainGet(b[i:]); i >= at && err == api.OK {
			return i
		}
	}
	return len(b)
}

// checkSeek holds Seek from each place of b, and from outside, against the plain words.
func checkSeek(t *testing.T, b []byte) {
	t.Helper()
	before := bytes.Clone(b)
	for at := -2; at <= len(b)+2; at++ {
		if to := frame.Seek(b, at); to != plainSeek(b, at) {
			t.Errorf("Seek(%x, %d): %d, not %d", b, at, to, plainSeek(b, at))
		}
	}
	if to := frame.Seek(b, lowest); to != plainSeek(b, 0) {
		t.Errorf("Seek(%x) from the lowest place: %d", b, to)
	}
	if to := frame.Seek(b, highest); to != len(b) {
		t.Errorf("Seek(%x) from the highest place: %d", b, to)
	}
	if !bytes.Equal(b, before) {
		t.Errorf("Seek changed %x into %x", before, b)
	}
}

func TestSeekTable(t *testing.T) {
	a := string(plainFrame(1, []byte("a")))
	none := string(plainFrame(1, nil))
	for _, x := range []struct {
		b      string
		at, to int
	}{
		{"", 0, 0},
		{"", -1, 0},
		{"", 1, 0},
		{"abc", 0, 3},
		{"abc", 3, 3},
		{"abc", 99, 3},
		{a, 0, 0},
		{a, -5, 0},
		{a, lowest, 0},
		{a, 1, 11},
		{a, 11, 11},
		{a, highest, 11},
		{a + a, 0, 0},
		{a + a, 1, 11},
		{a + a, 11, 11},
		{a + a, 12, 22},
		{"zz" + a + "zz", 0, 2},
		{"zz" + a + "zz", 3, 15},
		{"\xa7" + a, 0, 1},
		{"\xa7\x01\x00\x00\x00\x01" + a, 0, 6},
		{a[:10] + a, 0, 10},
		{a[:10] + "\x00" + a, 0, 11},
		{a + a[:10], 1, 21},
		{none, 0, 0},
		{none, 1, 10},
		{a + none, 1, 11},
		{none + none, 1, 10},
	} {
		if to := frame.Seek([]byte(x.b), x.at); to != x.to {
			t.Errorf("Seek(%x, %d): %d, not %d", x.b, x.at, to, x.to)
		}
	}
}

// A frame in another one's body is found too, ahead of the next one and, from there on, behind its outer one.
func TestSeekFindsAFrameInAnother(t *testing.T) {
	inner := plainFrame(2, []byte("in"))
	outer := plainFrame(1, inner)
	b := append(bytes.Clone(outer), inner...)
	if frame.Seek(b, 0) != 0 || frame.Seek(b, 1) != 6 || frame.Seek(b, 7) != len(outer) || frame.Seek(b, len(outer)+1) != len(b) {
		t.Errorf("%d, %d, %d", frame.Seek(b, 0), frame.Seek(b, 1), frame.Seek(b, 7))
	}
	b[len(outer)-1] ^= 1
	if frame.Seek(b, 0) != 6 {
		t.Errorf("behind a spoilt one: %d", frame.Seek(b, 0))
	}
}

// rows: every row of at most so many of the bytes.
func rows(letters []byte, most int) [][]byte {
	all := [][]byte{{}}
	for from := 0; most > 0; most-- {
		to := len(all)
		for _, r := range all[from:to] {
			for _, c := range letters {
				all = append(all, append(bytes.Clone(r), c))
			}
		}
		from = to
	}
	return all
}

// All calls end at whatever bytes, and answer what the plain words say.
func TestAnyBytes(t *testing.T) {
	a := plainFrame(1, []byte("a"))
	for _, r := range rows([]byte{0x00, 0x01, 0x04, 0xa7, 0xff}, 4) {
		for _, front := range [][]byte{nil, a, {0xa7, 0x01}, {0xa7, 0x01, 0x00, 0x00}} {
			b := bytes.Join([][]byte{front, r, a}, nil)
			checkPlain(t, b)
			checkSeek(t, b)
		}
	}
	_, b, _ := row(t)
	checkPlain(t, b)
}

func FuzzFrame(f *testing.F) {
	f.Add(byte(1), []byte("a"), 3)
	f.Add(byte(0xa7), plainFrame(2, []byte("ab")), 7)
	f.Add(byte(0), bytes.Repeat([]byte{0xa7}, 20), -1)
	f.Add(byte(0xff), []byte{0xa7, 1, 0, 0, 4, 1}, 1<<40)
	f.Fuzz(func(t *testing.T, kind byte, b []byte, at int) {
		checkPlain(t, b)
		checkSum(t, b)
		checkSum(t, b[:min(max(at, 0), len(b))], b[min(max(at, 0), len(b)):])
		if to := frame.Seek(b, at); to != plainSeek(b, at) {
			t.Errorf("Seek(%x, %d): %d, not %d", b, at, to, plainSeek(b, at))
		}
		form, err := frame.Put(kind, b)
		if len(b) > api.MaxBody {
			if len(form) != 0 || err != api.ErrLong {
				t.Errorf("Put of %d bytes: %x, %d", len(b), form, err)
			}
			return
		}
		if !bytes.Equal(form, plainFrame(kind, b)) || err != api.OK {
			t.Errorf("Put(%d, %x): %x, %d", kind, b, form, err)
		}
		checkGet(t, bytes.Join([][]byte{b, form, b}, nil), len(b), api.Frame{Kind: kind, Body: b})
		frames, n := frame.Scan(bytes.Join([][]byte{form, form, b}, nil))
		if len(frames) < 2 || n < 2*len(form) || !sameFrame(frames[0], frames[1]) {
			t.Errorf("Scan: %d frames, %d", len(frames), n)
		}
	})
}
