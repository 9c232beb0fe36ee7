package rlog

import (
	"slices"
	"testing"

	"seawall/api"
)

func slots(l *Log) []uint64 {
	var s []uint64
	for _, e := range l.kept {
		s = append(s, e.Slot)
	}
	return s
}

// Entries rise; of a value that was refused, or is not above the applied slot, nothing is kept.
func TestKeepsNoMore(t *testing.T) {
	l := New()
	l.Install(2)
	for _, slot := range []uint64{7, 3, 0, 5, 1, 7, 2, 4, noSlot, 5, 9} {
		l.Learn(slot, []byte("a"))
	}
	l.Learn(4, []byte("b"))
	l.Learn(6, make([]byte, api.MaxCommand+1))
	if s := slots(l); !slices.Equal(s, []uint64{3, 4, 5, 7, 9}) {
		t.Errorf("of the slots %d there are entries", s)
	}
	l.Apply()
	l.Apply()
	if s := slots(l); !slices.Equal(s, []uint64{3, 4, 5, 7, 9}) || l.applied != 4 {
		t.Errorf("behind two Apply there are %d; applied: %d", s, l.applied)
	}
}

// Of entries that went nothing is left behind the row's end.
func TestNothingLeft(t *testing.T) {
	l := New()
	for slot := range uint64(9) {
		l.Learn(slot+1, []byte("a"))
	}
	for range 4 {
		l.Apply()
	}
	check := func(want ...uint64) {
		t.Helper()
		if s := slots(l); !slices.Equal(s, want) {
			t.Errorf("there are %d, not %d", s, want)
		}
		for _, e := range l.kept[len(l.kept):cap(l.kept)] {
			if e.Slot != 0 || e.Value != nil {
				t.Errorf("of entries that went %v is kept", e)
			}
		}
	}
	l.Trim(3)
	check(4, 5, 6, 7, 8, 9)
	l.Install(6)
	check(7, 8, 9)
	l.Install(20)
	check()
}
