package rlog_test

import (
	"math"
	"slices"
	"testing"

	"seawall/api"
	"seawall/rlog"
)

// The chapter's example.
func TestExample(t *testing.T) {
	l := rlog.New()
	checkLearn(t, l, 2, "b", api.OK)
	checkApply(t, l)
	checkAt(t, l, 0, 1, 2)
	checkHoles(t, l, 9, 1)
	checkLearn(t, l, 1, "a", api.OK)
	checkApply(t, l, entry(1, "a"), entry(2, "b"))
	checkLearn(t, l, 2, "c", api.ErrTwice)
	checkTrim(t, l, 1, 1)
	checkCatch(t, l, 1, 9)
	checkCatch(t, l, 2, 9, entry(2, "b"))
	checkLearn(t, l, 1, "x", api.OK)
	checkCatch(t, l, 1, 9)
}

// A new log has learned nothing, and each is one of its own.
func TestNothingLearned(t *testing.T) {
	checkLearn(t, rlog.New(), 1, "a", api.OK)
	l := rlog.New()
	checkAt(t, l, 0, 1, 0)
	checkApply(t, l)
	checkHoles(t, l, math.MaxInt)
	for _, slot := range []uint64{0, 1, last, math.MaxUint64} {
		checkCatch(t, l, slot, math.MaxInt)
		checkTrim(t, l, slot, 0)
	}
	checkAt(t, l, 0, 1, 0)
}

// All calls of nil.
func TestNil(t *testing.T) {
	var l *rlog.Log
	for _, slot := range []uint64{0, 1, last, math.MaxUint64} {
		checkLearn(t, l, slot, "a", api.ErrNil)
		checkLearn(t, l, slot, text(1, 101), api.ErrNil)
		checkCatch(t, l, slot, 9)
		checkTrim(t, l, slot, 0)
		checkInstall(t, l, slot, false)
	}
	checkApply(t, l)
	checkAt(t, l, 0, 0, 0)
	checkHoles(t, l, 9)
}

// Of several errors the first is told, and with none of them anything changes.
func TestErrors(t *testing.T) {
	l := rlog.New()
	checkLearn(t, l, 3, "c", api.OK)
	for _, slot := range []uint64{0, math.MaxUint64} {
		checkLearn(t, l, slot, "", api.ErrArg)
		checkLearn(t, l, slot, text(1, 100), api.ErrArg)
		checkLearn(t, l, slot, text(1, 101), api.ErrArg)
	}
	for _, slot := range []uint64{1, 3, 4, last} {
		checkLearn(t, l, slot, text(1, 101), api.ErrLong)
		checkLearn(t, l, slot, text(1, 5000), api.ErrLong)
	}
	for _, value := range []string{"", "d", "cc", "C", text(1, 100)} {
		checkLearn(t, l, 3, value, api.ErrTwice)
	}
	checkAt(t, l, 0, 1, 3)
	checkCatch(t, l, 3, 9, entry(3, "c"))
}

// Values of all sizes; none, and an empty one, are the same.
func TestValues(t *testing.T) {
	l := rlog.New()
	for n := range 101 {
		checkLearn(t, l, uint64(n+1), text(n, n), api.OK)
		checkLearn(t, l, uint64(n+1), text(n, n), api.OK)
		other := text(n+1, max(n, 1))
		checkLearn(t, l, uint64(n+1), other, api.ErrTwice)
	}
	for n := range 101 {
		e, ok := l.Apply()
		if want := entry(uint64(n+1), text(n, n)); !sameEntry(e, want) || !ok {
			t.Errorf("Apply: %v, %t, not %v", e, ok, want)
		}
	}
	if err := l.Learn(1, nil); err != api.OK {
		t.Errorf("Learn(1, nil): %d", err)
	}
	if err := l.Learn(2, nil); err != api.ErrTwice {
		t.Errorf("Learn(2, nil): %d", err)
	}
}

// What may be learned of a slot that was applied: what is kept of it, and, once that is gone, anything.
func TestLearnBelow(t *testing.T) {
	l := rlog.New()
	for _, value := range []string{"a", "b", "c"} {
		checkLearn(t, l, l.Next(), value, api.OK)
	}
	checkApply(t, l, entry(1, "a"), entry(2, "b"), entry(3, "c"))
	checkLearn(t, l, 3, "c", api.OK)
	checkLearn(t, l, 3, "x", api.ErrTwice)
	checkTrim(t, l, 2, 2)
	checkLearn(t, l, 1, "x", api.OK)
	checkLearn(t, l, 2, "x", api.OK)
	checkLearn(t, l, 3, "x", api.ErrTwice)
	checkLearn(t, l, 2, text(1, 101), api.ErrLong)
	checkCatch(t, l, 1, 9)
	checkCatch(t, l, 2, 9)
	checkCatch(t, l, 3, 9, entry(3, "c"))
	checkInstall(t, l, 6, true)
	for slot := uint64(1); slot <= 6; slot++ {
		checkLearn(t, l, slot, "x", api.OK)
		checkCatch(t, l, slot, 9)
	}
	checkAt(t, l, 6, 7, 6)
	checkLearn(t, l, 7, "x", api.OK)
	checkAt(t, l, 6, 8, 7)
}

// Slots come in each order of five; they are applied in one.
func TestOrders(t *testing.T) {
	var play func(order []uint64)
	play = func(order []uint64) {
		if len(order) == 5 {
			checkOrder(t, order)
			return
		}
		for slot := uint64(1); slot <= 5; slot++ {
			if !slices.Contains(order, slot) {
				play(append(slices.Clone(order), slot))
			}
		}
	}
	play(nil)
}

func checkOrder(t *testing.T, order []uint64) {
	t.Helper()
	l := rlog.New()
	applied := uint64(0)
	for _, slot := range order {
		checkLearn(t, l, slot, text(int(slot), 3), api.OK)
		for e, ok := l.Apply(); ok; e, ok = l.Apply() {
			applied++
			if want := entry(applied, text(int(applied), 3)); !sameEntry(e, want) {
				t.Errorf("in the order %d: Apply: %v, not %v", order, e, want)
			}
		}
	}
	if applied != 5 {
		t.Errorf("in the order %d: %d are applied", order, applied)
	}
	checkAt(t, l, 5, 6, 5)
}

// Next goes over what is kept without a gap above the applied slot, and over nothing else.
func TestNext(t *testing.T) {
	l := rlog.New()
	checkLearn(t, l, 3, "", api.OK)
	checkAt(t, l, 0, 1, 3)
	checkLearn(t, l, 1, "", api.OK)
	checkAt(t, l, 0, 2, 3)
	checkLearn(t, l, 5, "", api.OK)
	checkLearn(t, l, 2, "", api.OK)
	checkAt(t, l, 0, 4, 5)
	checkApply(t, l, entry(1, ""), entry(2, ""), entry(3, ""))
	checkAt(t, l, 3, 4, 5)
	checkTrim(t, l, 2, 2)
	checkAt(t, l, 3, 4, 5)
	checkLearn(t, l, 4, "", api.OK)
	checkAt(t, l, 3, 6, 5)
	checkInstall(t, l, 4, true)
	checkAt(t, l, 4, 6, 5)
	checkInstall(t, l, 9, true)
	checkAt(t, l, 9, 10, 9)
}

// Top is the applied slot once nothing above it is kept.
func TestTop(t *testing.T) {
	l := filled(t, 1, 3)
	checkAt(t, l, 0, 4, 3)
	checkApply(t, l, entry(1, ""), entry(2, ""), entry(3, ""))
	checkAt(t, l, 3, 4, 3)
	checkTrim(t, l, 2, 2)
	checkAt(t, l, 3, 4, 3)
	checkTrim(t, l, 3, 1)
	checkAt(t, l, 3, 4, 3)
	checkInstall(t, l, 8, true)
	checkAt(t, l, 8, 9, 8)
	checkLearn(t, l, 11, "", api.OK)
	checkAt(t, l, 8, 9, 11)
}

// Holes lie between the applied slot and Top: rising, and no more than were asked for.
func TestHoles(t *testing.T) {
	l := rlog.New()
	for _, slot := range []uint64{4, 5, 9, 1} {
		checkLearn(t, l, slot, "", api.OK)
	}
	all := []uint64{2, 3, 6, 7, 8}
	for most := range 6 {
		checkHoles(t, l, most, all[:most]...)
	}
	for _, most := range []int{6, 100, math.MaxInt} {
		checkHoles(t, l, most, all...)
	}
	for _, most := range []int{0, -1, math.MinInt} {
		checkHoles(t, l, most)
	}
	checkApply(t, l, entry(1, ""))
	checkTrim(t, l, 1, 1)
	checkHoles(t, l, 9, all...)
	checkInstall(t, l, 2, true)
	checkHoles(t, l, 9, 3, 6, 7, 8)
	checkInstall(t, l, 6, true)
	checkHoles(t, l, 9, 7, 8)
	checkInstall(t, l, 8, true)
	checkHoles(t, l, 9)
	checkInstall(t, l, 9, true)
	checkHoles(t, l, 9)
	checkLearn(t, l, last, "", api.OK)
	checkHoles(t, l, 3, 10, 11, 12)
	checkInstall(t, l, last-2, true)
	checkHoles(t, l, math.MaxInt, last-1)
}

// Catch begins at the slot itself, applied or not, and ends at a gap.
func TestCatch(t *testing.T) {
	l := rlog.New()
	a, b, c, e, f := entry(1, "a"), entry(2, "b"), entry(3, ""), entry(5, "e"), entry(6, "f")
	for _, x := range []api.Entry{e, b, a, f, c} {
		checkLearn(t, l, x.Slot, string(x.Value), api.OK)
	}
	checkBeside := func() {
		t.Helper()
		checkCatch(t, l, 3, math.MaxInt, c)
		checkCatch(t, l, 4, math.MaxInt)
		checkCatch(t, l, 5, math.MaxInt, e, f)
		checkCatch(t, l, 6, 9, f)
		for _, slot := range []uint64{0, 7, last, math.MaxUint64} {
			checkCatch(t, l, slot, math.MaxInt)
		}
		for slot := range uint64(8) {
			for _, most := range []int{0, -1, math.MinInt} {
				checkCatch(t, l, slot, most)
			}
		}
	}
	checkBeside()
	checkCatch(t, l, 1, 9, a, b, c)
	checkCatch(t, l, 1, 1, a)
	checkCatch(t, l, 1, 2, a, b)
	checkCatch(t, l, 1, 3, a, b, c)
	checkApply(t, l, a, b, c)
	checkBeside()
	checkCatch(t, l, 1, 9, a, b, c)
	checkTrim(t, l, 1, 1)
	checkBeside()
	checkCatch(t, l, 1, 9)
	checkCatch(t, l, 2, 9, b, c)
	checkLearn(t, l, 4, "d", api.OK)
	checkCatch(t, l, 2, 9, b, c, entry(4, "d"), e, f)
	checkCatch(t, l, 2, 4, b, c, entry(4, "d"), e)
	checkInstall(t, l, 5, true)
	checkCatch(t, l, 5, 9)
	checkCatch(t, l, 6, 9, f)
}

// Trim takes nothing above the applied slot.
func TestTrim(t *testing.T) {
	l := filled(t, 1, 7)
	checkLearn(t, l, 9, "i", api.OK)
	checkTrim(t, l, math.MaxUint64, 0)
	for range 5 {
		if _, ok := l.Apply(); !ok {
			t.Error("Apply: false")
		}
	}
	checkTrim(t, l, 0, 0)
	checkTrim(t, l, 2, 2)
	checkTrim(t, l, 2, 0)
	checkTrim(t, l, 1, 0)
	checkCatch(t, l, 2, 9)
	checkCatch(t, l, 3, 9, entry(3, ""), entry(4, ""), entry(5, ""), entry(6, ""), entry(7, ""))
	checkTrim(t, l, 6, 3)
	checkCatch(t, l, 5, 9)
	checkCatch(t, l, 6, 9, entry(6, ""), entry(7, ""))
	checkAt(t, l, 5, 8, 9)
	checkTrim(t, l, math.MaxUint64, 0)
	checkApply(t, l, entry(6, ""), entry(7, ""))
	checkTrim(t, l, math.MaxUint64, 2)
	checkCatch(t, l, 9, 9, entry(9, "i"))
	checkHoles(t, l, 9, 8)
}

// Install goes ahead only, and what is above stays.
func TestInstall(t *testing.T) {
	l := rlog.New()
	for _, slot := range []uint64{1, 2, 4, 6, 7} {
		checkLearn(t, l, slot, text(int(slot), 2), api.OK)
	}
	checkApply(t, l, entry(1, text(1, 2)), entry(2, text(2, 2)))
	for _, slot := range []uint64{0, 1, 2, math.MaxUint64} {
		checkInstall(t, l, slot, false)
	}
	checkAt(t, l, 2, 3, 7)
	checkCatch(t, l, 1, 9, entry(1, text(1, 2)), entry(2, text(2, 2)))
	checkInstall(t, l, 3, true)
	checkInstall(t, l, 3, false)
	checkCatch(t, l, 1, 9)
	checkCatch(t, l, 2, 9)
	checkApply(t, l, entry(4, text(4, 2)))
	checkInstall(t, l, 4, false)
	checkCatch(t, l, 4, 9, entry(4, text(4, 2)))
	checkInstall(t, l, 5, true)
	checkAt(t, l, 5, 8, 7)
	checkCatch(t, l, 4, 9)
	checkApply(t, l, entry(6, text(6, 2)), entry(7, text(7, 2)))
	checkInstall(t, l, 100, true)
	checkAt(t, l, 100, 101, 100)
	checkTrim(t, l, 100, 0)
	checkApply(t, l)
	checkLearn(t, l, 101, "x", api.OK)
	checkApply(t, l, entry(101, "x"))
}

// A log of MaxKept entries takes no other slot, till some go.
func TestFull(t *testing.T) {
	l := filled(t, 2, api.MaxKept-1)
	checkAt(t, l, 0, 1, api.MaxKept)
	checkLearn(t, l, last, "z", api.OK)
	full := func(slots ...uint64) {
		t.Helper()
		for _, slot := range slots {
			checkLearn(t, l, slot, "", api.ErrFull)
			checkLearn(t, l, slot, text(1, 101), api.ErrLong)
			checkCatch(t, l, slot, 9)
		}
		checkLearn(t, l, 0, "", api.ErrArg)
		checkLearn(t, l, math.MaxUint64, "", api.ErrArg)
		checkLearn(t, l, last, "z", api.OK)
		checkLearn(t, l, last, "y", api.ErrTwice)
	}
	full(1, api.MaxKept+1, last-1)
	checkLearn(t, l, 2, "", api.OK)
	checkLearn(t, l, 2, "b", api.ErrTwice)
	checkTrim(t, l, last, 0)
	checkMany(t, l, 2, api.MaxKept-1)

	checkInstall(t, l, 1, true)
	full(api.MaxKept + 1)
	checkLearn(t, l, 1, "x", api.OK)
	checkInstall(t, l, 2, true)
	checkLearn(t, l, api.MaxKept+1, "", api.OK)
	full(api.MaxKept + 2)

	for range 3 {
		if _, ok := l.Apply(); !ok {
			t.Error("Apply: false")
		}
	}
	full(api.MaxKept + 2)
	checkLearn(t, l, 1, "x", api.OK)
	checkLearn(t, l, 5, "x", api.ErrTwice)
	checkTrim(t, l, 4, 2)
	checkLearn(t, l, api.MaxKept+3, "", api.OK)
	checkLearn(t, l, api.MaxKept+2, "", api.OK)
	full(api.MaxKept + 4)
	checkAt(t, l, 5, api.MaxKept+4, last)
}

// A full log without a gap is gone over to its end.
func TestFullRow(t *testing.T) {
	l := filled(t, 1, api.MaxKept)
	checkAt(t, l, 0, api.MaxKept+1, api.MaxKept)
	checkMany(t, l, 1, api.MaxKept)
	checkHoles(t, l, math.MaxInt)
	for range api.MaxKept {
		if _, ok := l.Apply(); !ok {
			t.Fatal("Apply: false")
		}
	}
	checkApply(t, l)
	checkAt(t, l, api.MaxKept, api.MaxKept+1, api.MaxKept)
	checkMany(t, l, 1, api.MaxKept)
	checkTrim(t, l, last, api.MaxKept)
	checkAt(t, l, api.MaxKept, api.MaxKept+1, api.MaxKept)
}

// checkMany: so many entries, and no more, are caught from a slot on.
func checkMany(t *testing.T, l *rlog.Log, from uint64, want int) {
	t.Helper()
	entries := l.Catch(from, math.MaxInt)
	if len(entries) != want {
		t.Errorf("Catch(%d, MaxInt): %d entries, not %d", from, len(entries), want)
	}
	for i, e := range entries {
		if e.Slot != from+uint64(i) {
			t.Fatalf("at the place %d is %v", i, e)
		}
	}
}

// At the end of all slots nothing goes round.
func TestLastSlots(t *testing.T) {
	l := rlog.New()
	checkLearn(t, l, last, "z", api.OK)
	checkAt(t, l, 0, 1, last)
	checkCatch(t, l, last, 9, entry(last, "z"))
	checkHoles(t, l, 2, 1, 2)
	checkInstall(t, l, last-1, true)
	checkAt(t, l, last-1, math.MaxUint64, last)
	checkHoles(t, l, 9)
	checkApply(t, l, entry(last, "z"))
	checkAt(t, l, last, math.MaxUint64, last)
	checkHoles(t, l, 9)
	checkLearn(t, l, math.MaxUint64, "", api.ErrArg)
	checkLearn(t, l, last, "y", api.ErrTwice)
	checkInstall(t, l, math.MaxUint64, false)
	checkInstall(t, l, last, false)
	checkCatch(t, l, last, 9, entry(last, "z"))
	checkTrim(t, l, math.MaxUint64, 1)
	checkCatch(t, l, last, 9)
	checkApply(t, l)
	checkLearn(t, l, 1, "a", api.OK)
	checkAt(t, l, last, math.MaxUint64, last)

	l = filled(t, 1, 3)
	checkInstall(t, l, last, true)
	checkAt(t, l, last, math.MaxUint64, last)
	checkApply(t, l)
	checkHoles(t, l, 9)
	checkTrim(t, l, math.MaxUint64, 0)
}

// What is handed in is not kept, and what comes out shares nothing.
func TestNothingShared(t *testing.T) {
	l := rlog.New()
	own := []byte("abc")
	for slot := uint64(1); slot <= 3; slot++ {
		if err := l.Learn(slot, own); err != api.OK {
			t.Errorf("Learn(%d): %d", slot, err)
		}
	}
	clear(own)
	want := []api.Entry{entry(1, "abc"), entry(2, "abc"), entry(3, "abc")}
	checkCatch(t, l, 1, 9, want...)

	first := l.Catch(1, 9)
	for i, e := range first {
		if !sameEntry(e, want[i]) {
			t.Errorf("%v is spoilt by another one of its list", e)
		}
		spoil(e.Value)
	}
	clear(first[:cap(first)])
	checkCatch(t, l, 1, 9, want...)
	_ = append(l.Catch(1, 1), entry(7, "x"))
	checkCatch(t, l, 1, 9, want...)

	e, _ := l.Apply()
	spoil(e.Value)
	checkCatch(t, l, 1, 9, want...)
	checkApply(t, l, want[1:]...)

	early := l.Catch(1, 9)
	checkTrim(t, l, 2, 2)
	checkInstall(t, l, 9, true)
	checkLearn(t, l, 11, "x", api.OK)
	checkLearn(t, l, 10, "y", api.OK)
	if len(early) != 3 || !sameEntry(early[0], want[0]) || !sameEntry(early[2], want[2]) {
		t.Errorf("what was told is %v", early)
	}

	checkLearn(t, l, 15, "z", api.OK)
	spoilSlots := l.Holes(9)
	clear(spoilSlots[:cap(spoilSlots)])
	checkHoles(t, l, 9, 12, 13, 14)
}

// spoil: a value, and the room behind it.
func spoil(b []byte) {
	clear(b[:cap(b)])
}
