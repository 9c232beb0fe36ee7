package rlog_test

import (
	"math/rand"
	"testing"

	"seawall/api"
	"seawall/rlog"
)

// choices is how many slots have a value.
const choices = 60

// choice: the one value of a slot.
func choice(slot uint64) string {
	return text(int(slot), int(slot)%5)
}

// replica has a log, and counts what it applied.
type replica struct {
	log     *rlog.Log
	applied uint64
}

// learn: of a choice; what was learned before may be learned again.
func (r *replica) learn(t *testing.T, slot uint64, value string) {
	t.Helper()
	checkLearn(t, r.log, slot, value, api.OK)
}

// apply: slots come one behind the other, each with its own value.
func (r *replica) apply(t *testing.T) {
	t.Helper()
	for e, ok := r.log.Apply(); ok; e, ok = r.log.Apply() {
		r.applied++
		if want := entry(r.applied, choice(r.applied)); !sameEntry(e, want) {
			t.Fatalf("%v is applied, not %v", e, want)
		}
	}
	if r.log.Applied() != r.applied || r.log.Next() != r.applied+1 {
		t.Fatalf("Applied, Next: %d, %d behind the slot %d", r.log.Applied(), r.log.Next(), r.applied)
	}
}

// fetch: what the other one has, from the first slot on that is missing; how many.
func (r *replica) fetch(t *testing.T, other *replica) int {
	t.Helper()
	l := other.log.Catch(r.log.Next(), api.MaxFetch)
	for _, e := range l {
		r.learn(t, e.Slot, string(e.Value))
	}
	return len(l)
}

// install: the other one's state is handed over, if it is ahead.
func (r *replica) install(t *testing.T, other *replica) {
	t.Helper()
	checkInstall(t, r.log, other.applied, other.applied > r.applied)
	r.applied = max(r.applied, other.applied)
}

// step: one thing that the draw takes.
func step(t *testing.T, l []*replica, draw *rand.Rand) {
	t.Helper()
	r, other := l[draw.Intn(len(l))], l[draw.Intn(len(l))]
	switch c := draw.Intn(100); {
	case c < 60:
		slot := 1 + uint64(draw.Intn(choices))
		r.learn(t, slot, choice(slot))
	case c < 75:
		r.apply(t)
	case c < 90:
		r.fetch(t, other)
	case c < 96:
		r.log.Trim(r.log.Applied() - uint64(draw.Intn(5)))
	case c < 98:
		r.install(t, other)
	default:
		*r = replica{log: rlog.New()}
	}
}

// All logs apply one row of values, whatever comes in which order, and whoever catches up from whom.
func TestOneOrder(t *testing.T) {
	fetched, installed := 0, 0
	for seed := range 300 {
		draw := rand.New(rand.NewSource(int64(seed)))
		l := []*replica{{log: rlog.New()}, {log: rlog.New()}, {log: rlog.New()}}
		for range 20 + draw.Intn(200) {
			step(t, l, draw)
		}
		// One hears of all; the others catch up, or take over its state where it has no entries any more.
		for slot := uint64(1); slot <= choices; slot++ {
			l[0].learn(t, slot, choice(slot))
		}
		l[0].apply(t)
		l[0].log.Trim(uint64(draw.Intn(20)))
		for _, r := range l {
			r.apply(t)
			for r.applied < choices {
				if n := r.fetch(t, l[0]); n > 0 {
					fetched += n
				} else {
					r.install(t, l[0])
					installed++
				}
				r.apply(t)
			}
			checkAt(t, r.log, choices, choices+1, choices)
		}
	}
	t.Logf("%d entries were fetched, %d states handed over", fetched, installed)
	if fetched < 1000 || installed < 50 {
		t.Errorf("%d entries were fetched, %d states handed over: too few to tell", fetched, installed)
	}
}
