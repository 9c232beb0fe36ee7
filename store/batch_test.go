package store_test

import (
	"bytes"
	"encoding/binary"
	"math/rand"
	"slices"
	"strings"
	"testing"

	"seawall/api"
	"seawall/store"
)

// plainRight: may it be a batch, as the chapter's words tell it?
func plainRight(l []api.Change) bool {
	for _, c := range l {
		if len(c.Key) < 1 || len(c.Key) > 16 || len(c.Value) > 128 || c.Gone && len(c.Value) > 0 {
			return false
		}
	}
	return len(l) <= 32
}

// plainBytes: a batch's bytes, however many.
func plainBytes(l []api.Change) []byte {
	b := binary.AppendUvarint(nil, uint64(len(l)))
	for _, c := range l {
		b = binary.AppendUvarint(b, uint64(len(c.Key)))
		b = append(b, c.Key...)
		if c.Gone {
			b = append(b, 1)
			continue
		}
		b = append(b, 0)
		b = binary.AppendUvarint(b, uint64(len(c.Value)))
		b = append(b, c.Value...)
	}
	return b
}

// plainEncode: what Encode must answer.
func plainEncode(l []api.Change) ([]byte, api.Errno) {
	switch b := plainBytes(l); {
	case !plainRight(l):
		return nil, api.ErrArg
	case len(b) > 1024:
		return nil, api.ErrLong
	default:
		return b, api.OK
	}
}

// plainDecode: what Decode must answer. Numbers are read in any form they have: whether they have the one that is right is found by writing all again.
func plainDecode(b []byte) ([]api.Change, api.Errno) {
	rest := b
	number := func() uint64 {
		n, used := binary.Uvarint(rest)
		rest = rest[max(used, 0):]
		return n
	}
	text := func() string {
		n := number() // changes the rest, so it is not asked for in one statement with that
		s := string(rest[:min(n, uint64(len(rest)))])
		rest = rest[len(s):]
		return s
	}
	var l []api.Change
	for range min(number(), 33) {
		c := api.Change{Key: text()}
		c.Gone = number() == 1
		if !c.Gone {
			c.Value = text()
		}
		l = append(l, c)
	}
	if again, err := plainEncode(l); err != api.OK || !bytes.Equal(again, b) {
		return nil, api.ErrBatch
	}
	return l, api.OK
}

// set: a batch that gives one key a value.
func set(key, value string) []api.Change {
	return []api.Change{{Key: key, Value: value}}
}

// gone: a batch that takes one key's value.
func gone(key string) []api.Change {
	return []api.Change{{Key: key, Gone: true}}
}

// text: n bytes, which differ from those of another seed.
func text(seed, n int) string {
	b := make([]byte, n)
	for i := range b {
		b[i] = byte(seed*41 + i*7 + 3)
	}
	return string(b)
}

// checkEncode: Right and Encode answer what they must, and what Encode gives is read again.
func checkEncode(t *testing.T, l []api.Change) {
	t.Helper()
	before := slices.Clone(l)
	right := api.OK
	if !plainRight(l) {
		right = api.ErrArg
	}
	if err := store.Right(l); err != right {
		t.Errorf("Right(%+v): %d, not %d", l, err, right)
	}
	b, err := store.Encode(l)
	want, wantErr := plainEncode(l)
	if !bytes.Equal(b, want) || err != wantErr {
		t.Errorf("Encode(%+v): %x, %d, not %x, %d", l, b, err, want, wantErr)
	}
	if !slices.Equal(l, before) {
		t.Errorf("Encode made %+v of %+v", l, before)
	}
	if err == api.OK {
		checkDecode(t, b)
	}
}

// checkDecode: Decode answers what it must, and what it gives is written as the bytes were.
func checkDecode(t *testing.T, b []byte) {
	t.Helper()
	before := slices.Clone(b)
	l, err := store.Decode(b)
	want, wantErr := plainDecode(b)
	if !slices.Equal(l, want) || err != wantErr {
		t.Errorf("Decode(%x): %+v, %d, not %+v, %d", b, l, err, want, wantErr)
	}
	if !bytes.Equal(b, before) {
		t.Errorf("Decode made %x of %x", b, before)
	}
	clear(b)
	if !slices.Equal(l, want) {
		t.Errorf("Decode(%x) kept the bytes", before)
	}
	copy(b, before)
	if again, err2 := store.Encode(l); err == api.OK && (err2 != api.OK || !bytes.Equal(again, b)) {
		t.Errorf("Encode(Decode(%x)): %x, %d", b, again, err2)
	}
}

func TestExampleBytes(t *testing.T) {
	b, err := store.Encode([]api.Change{{Key: "a", Value: "x"}, {Key: "b", Gone: true}})
	if want := "\x02\x01a\x00\x01x\x01b\x01"; string(b) != want || err != api.OK {
		t.Errorf("%x, %d", b, err)
	}
	if b, err := store.Encode(nil); string(b) != "\x00" || err != api.OK {
		t.Errorf("of nothing: %x, %d", b, err)
	}
	if b, err := store.Encode([]api.Change{}); string(b) != "\x00" || err != api.OK {
		t.Errorf("of an empty list: %x, %d", b, err)
	}
	if l, err := store.Decode([]byte{0}); len(l) != 0 || err != api.OK {
		t.Errorf("the batch of 00: %+v, %d", l, err)
	}
}

// Each size of keys, values and lists on both sides of its limit, and the wrong change at each place of a list.
func TestEdges(t *testing.T) {
	for key := range 20 {
		for _, value := range []int{0, 1, 126, 127, 128, 129, 130, 256, 5000} {
			checkEncode(t, set(text(key, key), text(value, value)))
			checkEncode(t, []api.Change{{Key: text(key, key), Value: text(value, value), Gone: true}})
		}
	}
	for _, key := range []int{128, 256, 70000} {
		checkEncode(t, set(text(1, key), ""))
		checkEncode(t, gone(text(1, key)))
	}
	for _, n := range []int{0, 1, 2, 31, 32, 33, 34, 64, 127, 128, 255, 256, 288, 100000} {
		checkEncode(t, slices.Repeat(gone("k"), n))
		checkEncode(t, slices.Repeat(set("k", "v"), n))
	}
	for _, wrong := range []api.Change{{}, {Key: text(1, 17)}, {Key: "k", Value: text(1, 129)}, {Key: "k", Value: "v", Gone: true}, {Gone: true}, {Value: "v"}} {
		for n := range 32 {
			l := slices.Repeat(set("k", "v"), 32)
			l[n] = wrong
			checkEncode(t, l)
			checkEncode(t, l[:n+1])
			checkEncode(t, l[n:])
		}
	}
}

// Keys and values are any bytes at all, and one key may stand twice.
func TestAnyBytes(t *testing.T) {
	for c := range 256 {
		s := string([]byte{byte(c)})
		checkEncode(t, []api.Change{{Key: s, Value: s}, {Key: s + s, Gone: true}, {Key: s, Gone: true}, {Key: s}})
	}
}

// A batch of just as many bytes as a record takes, and of one more; what may be no batch is told ahead of that.
func TestLong(t *testing.T) {
	for last := range 129 {
		l := slices.Repeat(set("k", text(1, 128)), 7)
		l = append(l, api.Change{Key: text(2, 16), Value: text(3, last)})
		checkEncode(t, l)
		checkEncode(t, append(l, gone("b")...))
	}
	long := slices.Repeat(set("k", text(1, 128)), 9)
	if b, err := store.Encode(long); b != nil || err != api.ErrLong {
		t.Errorf("%x, %d", b, err)
	}
	for _, l := range [][]api.Change{append(slices.Clone(long), api.Change{}), slices.Repeat(long, 4)} {
		if b, err := store.Encode(l); b != nil || err != api.ErrArg {
			t.Errorf("%x, %d", b, err)
		}
	}
}

// sized: a batch of just so many bytes, of so many changes; all but the last one have values of about one size.
func sized(n, count int, last api.Change) []api.Change {
	l := append(slices.Repeat(set("k", ""), count-1), last)
	for i := 0; len(plainBytes(l)) < n; i = (i + 1) % (count - 1) {
		l[i].Value += "v"
	}
	return l
}

// Right changes in just as many bytes as Encode writes are a batch; in one more, or in more, they are none.
func TestDecodeLong(t *testing.T) {
	for _, last := range []api.Change{{Key: "k", Value: "v"}, {Key: "k"}, {Key: "k", Gone: true}, {Key: text(1, 16), Value: text(2, 20)}} {
		for _, count := range []int{9, 20, 32} {
			for n := api.MaxBody - 9; n < api.MaxBody+9; n++ {
				l := sized(n, count, last)
				checkLong(t, l, n)
				checkDecode(t, append(plainBytes(l), 0))
				checkDecode(t, plainBytes(l)[:n-1])
			}
		}
		for _, n := range []int{1100, 1279, 1280, 2047, 2048, 2049, 3000} {
			checkLong(t, sized(n, 32, last), n)
		}
	}
	for n := range 33 {
		checkDecode(t, plainBytes(slices.Repeat(set(text(1, 16), text(2, 128)), n)))
	}
}

// checkLong: right changes, of n bytes, are read and written alike, or are neither.
func checkLong(t *testing.T, l []api.Change, n int) {
	t.Helper()
	b := plainBytes(l)
	if err := store.Right(l); err != api.OK || len(b) != n {
		t.Fatalf("%d changes, %d bytes, not %d: Right: %d", len(l), len(b), n, err)
	}
	want, readErr, writeErr := l, api.OK, api.OK
	if n > 1024 {
		want, readErr, writeErr = nil, api.ErrBatch, api.ErrLong
	}
	if l, err := store.Decode(b); !slices.Equal(l, want) || err != readErr {
		t.Errorf("Decode of %d bytes: %d changes, %d, not %d, %d", n, len(l), err, len(want), readErr)
	}
	if _, err := store.Encode(l); err != writeErr {
		t.Errorf("Encode of %d bytes: %d, not %d", n, err, writeErr)
	}
	checkEncode(t, l)
	checkDecode(t, b)
}

// Eight changes, each right for itself, of 1049 bytes together.
func TestDecodeEightLong(t *testing.T) {
	b := []byte{8}
	for key := byte('a'); key <= 'h'; key++ {
		b = append(b, 1, key, 0, 127)
		b = append(b, strings.Repeat("v", 127)...)
	}
	if l, err := store.Decode(b); l != nil || err != api.ErrBatch || len(b) != 1049 {
		t.Errorf("Decode of %d bytes: %d changes, %d", len(b), len(l), err)
	}
}

func TestNoBatch(t *testing.T) {
	for what, s := range map[string]string{
		"nothing":                     "",
		"no change, of one":           "\x01",
		"no flag":                     "\x01\x01a",
		"another flag":                "\x01\x01a\x02",
		"another flag, and a value":   "\x01\x01a\x02\x01x",
		"a flag of two bytes":         "\x01\x01a\x81\x00",
		"a great flag":                "\x01\x01a\x80\x02",
		"no value":                    "\x01\x01a\x00",
		"half a value":                "\x01\x01a\x00\x02x",
		"a value that is gone":        "\x01\x01a\x01\x00",
		"no key":                      "\x01\x00\x01",
		"no key, and a value":         "\x01\x00\x00\x01x",
		"a long key":                  "\x01\x11" + text(1, 17) + "\x01",
		"a long value":                "\x01\x01a\x00\x81\x01" + text(1, 129),
		"a number in a longer form":   "\x01\x01a\x00\x80\x00",
		"a count in a longer form":    "\x80\x00",
		"a key's size in longer form": "\x01\x81\x00a\x01",
		"more behind it":              "\x00\x00",
		"a change more":               "\x01\x01a\x01\x01b\x01",
		"a change less":               "\x02\x01a\x01",
		"many changes":                "\x21" + strings.Repeat("\x01a\x01", 33),
		"a great count":               "\xff\xff\xff\xff\xff\xff\xff\xff\xff\x01" + strings.Repeat("\x01a\x01", 50),
		"a count of 2 to the 32":      "\x80\x80\x80\x80\x10",
		"a great size of a key":       "\x01\xff\xff\xff\xff\xff\xff\xff\xff\xff\x01a\x01",
		"a great size of a value":     "\x01\x01a\x00\xff\xff\xff\xff\xff\xff\xff\xff\xff\x01x",
	} {
		if l, err := store.Decode([]byte(s)); l != nil || err != api.ErrBatch {
			t.Errorf("%s: %+v, %d", what, l, err)
		}
		checkDecode(t, []byte(s))
	}
}

// One byte more, one less, and another one at each place.
func TestSpoilt(t *testing.T) {
	for _, l := range [][]api.Change{
		nil,
		set("a", ""),
		gone("a"),
		{{Key: "a", Value: "x"}, {Key: "b", Gone: true}},
		{{Key: "ab", Gone: true}, {Key: "\x01", Value: "\x01\x00"}, {Key: "\x00", Value: "\x00"}},
		{{Key: text(1, 16), Value: text(2, 128)}, {Key: "k", Value: text(3, 127)}},
		slices.Repeat(gone("k"), 32),
	} {
		whole, err := store.Encode(l)
		if err != api.OK {
			t.Fatalf("Encode(%+v): %d", l, err)
		}
		for n := range whole {
			if l, err := store.Decode(whole[:n]); l != nil || err != api.ErrBatch {
				t.Errorf("the first %d of %x: %+v, %d", n, whole, l, err)
			}
		}
		for c := range 256 {
			if l, err := store.Decode(append(slices.Clone(whole), byte(c))); l != nil || err != api.ErrBatch {
				t.Errorf("%x and %x: %+v, %d", whole, c, l, err)
			}
			checkDecode(t, append([]byte{byte(c)}, whole...))
			for at := range whole {
				b := slices.Clone(whole)
				b[at] = byte(c)
				checkDecode(t, b)
			}
		}
	}
}

// All rows of few bytes that mean something there.
func TestShortRows(t *testing.T) {
	mean := []byte{0, 1, 2, 3, 0x80, 'a'}
	row := make([]byte, 7)
	for size := range row {
		count := 1
		for range size {
			count *= len(mean)
		}
		for n := range count {
			for i := range size {
				row[i] = mean[n%len(mean)]
				n /= len(mean)
			}
			checkDecode(t, row[:size])
		}
	}
}

func TestDrawnBatches(t *testing.T) {
	draw := rand.New(rand.NewSource(5))
	for range 4000 {
		l := make([]api.Change, draw.Intn(35))
		most := 1 + draw.Intn(131)
		for i := range l {
			l[i] = api.Change{Key: text(draw.Intn(99), 1+draw.Intn(16)), Gone: draw.Intn(3) == 0}
			if !l[i].Gone {
				l[i].Value = text(draw.Intn(99), draw.Intn(most))
			}
		}
		checkEncode(t, l)
		b := plainBytes(l)
		for range draw.Intn(3) {
			b[draw.Intn(len(b))] = byte(draw.Intn(4) * draw.Intn(64))
		}
		checkDecode(t, b)
	}
}

// What comes out is its owner's, with the room behind it.
func TestBatchComesOut(t *testing.T) {
	l := []api.Change{{Key: "a", Value: "x"}, {Key: "b", Gone: true}}
	b, _ := store.Encode(l)
	c, _ := store.Encode(l)
	clear(b[:cap(b)])
	if !bytes.Equal(c, plainBytes(l)) {
		t.Errorf("two batches' bytes share: %x", c)
	}
	x, _ := store.Decode(c)
	y, _ := store.Decode(c)
	clear(x[:cap(x)])
	if !slices.Equal(y, l) {
		t.Errorf("two batches share: %+v", y)
	}
}
