package frame_test

import (
	"bytes"
	"hash/crc32"
	"testing"

	"seawall/api"
	"seawall/frame"
)

func TestSumTable(t *testing.T) {
	for _, x := range []struct {
		parts []string
		sum   uint32
	}{
		{nil, 0},
		{[]string{""}, 0},
		{[]string{"", "", ""}, 0},
		{[]string{"123456789"}, 0xcbf43926},
		{[]string{"1234", "56789"}, 0xcbf43926},
		{[]string{"", "1", "", "2345678", "9", ""}, 0xcbf43926},
		{[]string{"a"}, 0xe8b7be43},
		{[]string{"\x00"}, 0xd202ef8d},
		{[]string{"\x00", "\x00"}, 0x41d912ff},
		{[]string{"\xff"}, 0xff000000},
		{[]string{"\xff\xff\xff\xff"}, 0xffffffff},
	} {
		var parts [][]byte
		for _, p := range x.parts {
			parts = append(parts, []byte(p))
		}
		if s := frame.Sum(parts...); s != x.sum {
			t.Errorf("Sum(%q): %08x, not %08x", x.parts, s, x.sum)
		}
	}
	if s := frame.Sum(nil, nil); s != 0 {
		t.Errorf("Sum of nil parts: %08x", s)
	}
}

// The library's own sum is the same one, of each byte and of bytes that are many.
func TestSumIsTheLibrarysSum(t *testing.T) {
	for c := range 256 {
		for d := range 256 {
			checkSum(t, []byte{byte(c), byte(d)})
		}
	}
	for _, n := range []int{1, 2, 3, 7, 8, 9, 255, api.MaxBody, api.MaxBytes, 100000} {
		checkSum(t, text(n))
		checkSum(t, bytes.Repeat([]byte{0x00}, n))
		checkSum(t, bytes.Repeat([]byte{0xff}, n))
	}
}

// However bytes are cut into parts, the sum is the one of all of them.
func TestSumOfAllCuts(t *testing.T) {
	b := text(20)
	for i := range len(b) + 1 {
		for j := i; j <= len(b); j++ {
			checkSum(t, b[:i], b[i:j], b[j:])
		}
	}
	var single [][]byte
	for _, c := range b {
		single = append(single, []byte{c})
	}
	checkSum(t, single...)
}

// checkSum holds Sum against the library's, and sees that the parts stay as they were.
func checkSum(t *testing.T, parts ...[]byte) {
	t.Helper()
	before := bytes.Join(parts, nil)
	if s := frame.Sum(parts...); s != crc32.ChecksumIEEE(before) {
		t.Errorf("Sum(%x): %08x, not %08x", parts, s, crc32.ChecksumIEEE(before))
	}
	if after := bytes.Join(parts, nil); !bytes.Equal(after, before) {
		t.Errorf("Sum changed %x into %x", before, after)
	}
}
