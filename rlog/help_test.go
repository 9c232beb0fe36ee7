package rlog_test

import (
	"bytes"
	"math"
	"slices"
	"testing"

	"seawall/api"
	"seawall/rlog"
)

// last is the greatest slot that there is.
const last = math.MaxUint64 - 1

func entry(slot uint64, value string) api.Entry {
	return api.Entry{Slot: slot, Value: []byte(value)}
}

// text: n bytes, which differ from those of another seed.
func text(seed, n int) string {
	b := make([]byte, n)
	for i := range b {
		b[i] = byte(seed*41 + i*7 + 3)
	}
	return string(b)
}

// filled: a log that has learned the empty value of so many slots, from one on.
func filled(t *testing.T, from uint64, n int) *rlog.Log {
	t.Helper()
	l := rlog.New()
	for i := range uint64(n) {
		checkLearn(t, l, from+i, "", api.OK)
	}
	return l
}

func sameEntry(a, b api.Entry) bool {
	return a.Slot == b.Slot && bytes.Equal(a.Value, b.Value)
}

func checkLearn(t *testing.T, l *rlog.Log, slot uint64, value string, want api.Errno) {
	t.Helper()
	own := append([]byte(value), "behind"...)[:len(value)]
	if err := l.Learn(slot, own); err != want {
		t.Errorf("Learn(%d, %q): %d, not %d", slot, value, err, want)
	}
	if behind := own[:len(own)+6]; string(behind) != value+"behind" {
		t.Errorf("Learn(%d, %q) made that %q", slot, value, behind)
	}
	clear(own)
}

// checkApply: these are applied, one behind the other, and then no more.
func checkApply(t *testing.T, l *rlog.Log, want ...api.Entry) {
	t.Helper()
	for _, w := range want {
		if e, ok := l.Apply(); !sameEntry(e, w) || !ok {
			t.Errorf("Apply: %v, %t, not %v", e, ok, w)
		}
	}
	if e, ok := l.Apply(); ok || !sameEntry(e, api.Entry{}) {
		t.Errorf("Apply: %v, %t, though there should be no more", e, ok)
	}
}

func checkAt(t *testing.T, l *rlog.Log, applied, next, top uint64) {
	t.Helper()
	if l.Applied() != applied || l.Next() != next || l.Top() != top {
		t.Errorf("Applied, Next, Top: %d, %d, %d, not %d, %d, %d", l.Applied(), l.Next(), l.Top(), applied, next, top)
	}
}

func checkHoles(t *testing.T, l *rlog.Log, most int, want ...uint64) {
	t.Helper()
	if holes := l.Holes(most); !slices.Equal(holes, want) {
		t.Errorf("Holes(%d): %d, not %d", most, holes, want)
	}
}

func checkCatch(t *testing.T, l *rlog.Log, from uint64, most int, want ...api.Entry) {
	t.Helper()
	if entries := l.Catch(from, most); !slices.EqualFunc(entries, want, sameEntry) {
		t.Errorf("Catch(%d, %d): %v, not %v", from, most, entries, want)
	}
}

func checkTrim(t *testing.T, l *rlog.Log, upto uint64, want int) {
	t.Helper()
	if n := l.Trim(upto); n != want {
		t.Errorf("Trim(%d): %d, not %d", upto, n, want)
	}
}

func checkInstall(t *testing.T, l *rlog.Log, upto uint64, want bool) {
	t.Helper()
	if l.Install(upto) != want {
		t.Errorf("Install(%d): %t", upto, !want)
	}
}
