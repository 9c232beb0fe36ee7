package bucket_test

import (
	"math"
	"testing"

	"seawall/api"
	"seawall/bucket"
)

// wild: numbers that are hardly anybody's, and those beside them.
var wild = []int{math.MinInt, math.MinInt + 1, -1000000, -2, -1, 0, 1 << 32, 1 << 62, math.MaxInt - 1, math.MaxInt}

// The chapter's example.
func TestExample(t *testing.T) {
	b := start(t, 3, 10)
	checkTake(t, b, 10, true)
	checkTake(t, b, 1, false)
	checkWait(t, b, 7, 3)
	b.Tick(3)
	checkLevel(t, b, 9)
	checkTake(t, b, 7, true)
	b.Tick(5)
	checkLevel(t, b, 10)
	checkBack(t, 4, 100, 3, 5, 13)
}

// A new bucket is full, whatever its rate.
func TestNew(t *testing.T) {
	for _, rate := range []int{0, 1, 2, 999999, 1000000} {
		for _, burst := range []int{1, 2, 3, 999999, 1000000} {
			b := start(t, rate, burst)
			checkLevel(t, b, burst)
			checkWait(t, b, burst, 0)
			checkWait(t, b, burst+1, -1)
			checkTake(t, b, burst+1, false)
			checkTake(t, b, burst, true)
			checkLevel(t, b, 0)
		}
	}
}

// What is a little beyond what may be is refused.
func TestNewErrors(t *testing.T) {
	check := func(rate, burst int) {
		t.Helper()
		if b, err := bucket.New(rate, burst); b != nil || err != api.ErrArg {
			t.Errorf("New(%d, %d): %v, %d", rate, burst, b, err)
		}
	}
	for _, n := range append([]int{1000001, 1000002}, wild...) {
		if n != 0 {
			check(n, 1)
			check(n, 1000000)
		}
		check(0, n)
		check(1000000, n)
		check(n, 1000001)
		check(-1, n)
	}
}

// All calls of nil.
func TestNil(t *testing.T) {
	var b *bucket.Bucket
	for _, n := range append([]int{1, 2, 1000000}, wild...) {
		b.Tick(n)
		checkTake(t, b, n, false)
		checkWait(t, b, n, -1)
		checkLevel(t, b, 0)
	}
}

// Tokens come at each tick, and what is above burst is lost.
func TestTick(t *testing.T) {
	b := start(t, 3, 10)
	b.Tick(1)
	checkLevel(t, b, 10)
	checkTake(t, b, 10, true)
	for _, want := range []int{3, 6, 9, 10, 10, 10} {
		b.Tick(1)
		checkLevel(t, b, want)
	}
	checkTake(t, b, 1, true)
	checkLevel(t, b, 9)
	b.Tick(1)
	checkLevel(t, b, 10)
}

// So many ticks at one stroke are as many, one behind the other.
func TestTickMany(t *testing.T) {
	for rate := range 5 {
		for burst := 1; burst < 12; burst++ {
			for ticks := range 15 {
				one, many := start(t, rate, burst), start(t, rate, burst)
				one.Take(burst - burst/3)
				many.Take(burst - burst/3)
				for range ticks {
					one.Tick(1)
				}
				many.Tick(ticks)
				checkLevel(t, many, one.Level())
			}
		}
	}
}

// No ticks go by where they are below 1.
func TestNoTicks(t *testing.T) {
	b := start(t, 1000000, 1000000)
	checkTake(t, b, 999999, true)
	for _, ticks := range wild {
		if ticks < 1 {
			b.Tick(ticks)
			checkLevel(t, b, 1)
		}
	}
	b.Tick(1)
	checkLevel(t, b, 1000000)
}

// However many ticks go by, the bucket is full then; at rate 0 nothing comes.
func TestTickGreat(t *testing.T) {
	greats := []int{1 << 31, 1 << 32, 1 << 44, 1<<62 - 1, 1 << 62, 1<<62 + 1, math.MaxInt - 1, math.MaxInt}
	for _, ticks := range greats {
		for _, rate := range []int{0, 1, 2, 3, 4, 7, 8, 999999, 1000000} {
			for _, burst := range []int{1, 5, 64, 1000000} {
				b := start(t, rate, burst)
				checkTake(t, b, burst, true)
				b.Tick(ticks)
				want := burst
				if rate == 0 {
					want = 0
				}
				checkLevel(t, b, want)
			}
		}
	}
}

// Sums that are a little above 64 bits, and a little below: rate times ticks is near a multiple of them.
func TestTickWraps(t *testing.T) {
	for rate := 3; rate <= 1000000; rate = rate*7/3 + 1 {
		for times := uint64(1); times <= uint64(rate)/2 && times < 5; times++ {
			first := uint64(math.MaxUint64)/uint64(rate)*times - 2
			for ticks := first; ticks < first+12 && ticks <= math.MaxInt; ticks++ {
				b := start(t, rate, 1000000)
				checkTake(t, b, 1, true)
				b.Tick(int(ticks))
				checkLevel(t, b, 1000000)
				checkTake(t, b, 1000000, true)
				b.Tick(int(ticks))
				checkLevel(t, b, 1000000)
			}
		}
	}
}

// Of what there is all that is asked for is taken, or nothing.
func TestTake(t *testing.T) {
	for level := range 12 {
		for n := -3; n < 15; n++ {
			b := start(t, 0, 11)
			b.Take(11 - level)
			checkLevel(t, b, level)
			if n >= 1 && n <= level {
				checkTake(t, b, n, true)
				checkLevel(t, b, level-n)
			} else {
				checkTake(t, b, n, false)
				checkLevel(t, b, level)
			}
		}
	}
	b := start(t, 0, 1000000)
	for _, n := range wild {
		checkTake(t, b, n, false)
		checkLevel(t, b, 1000000)
	}
}

// How many ticks are too few, and how many are enough.
func TestWait(t *testing.T) {
	b := start(t, 3, 10)
	checkTake(t, b, 8, true)
	for n, want := range []int{-1, 0, 0, 1, 1, 1, 2, 2, 2, 3, 3, -1, -1} {
		checkWait(t, b, n, want)
	}
	b = start(t, 1, 1000000)
	checkTake(t, b, 1000000, true)
	checkWait(t, b, 1, 1)
	checkWait(t, b, 999999, 999999)
	checkWait(t, b, 1000000, 1000000)
	b = start(t, 1000000, 1000000)
	checkTake(t, b, 1000000, true)
	checkWait(t, b, 1, 1)
	checkWait(t, b, 1000000, 1)
}

// What is never there, and what is there though nothing comes.
func TestWaitNever(t *testing.T) {
	b := start(t, 0, 10)
	checkTake(t, b, 4, true)
	for n, want := range []int{-1, 0, 0, 0, 0, 0, 0, -1, -1, -1, -1, -1} {
		checkWait(t, b, n, want)
	}
	full := start(t, 5, 1000000)
	for _, n := range append([]int{1000001}, wild...) {
		checkWait(t, b, n, -1)
		checkWait(t, full, n, -1)
	}
	checkTake(t, full, 1000000, true)
	for _, n := range append([]int{1000001}, wild...) {
		checkWait(t, full, n, -1)
	}
}

// That it is asked takes nothing.
func TestAskedTwice(t *testing.T) {
	b := start(t, 2, 9)
	checkTake(t, b, 5, true)
	for range 5 {
		checkLevel(t, b, 4)
		checkWait(t, b, 9, 3)
		checkWait(t, b, 4, 0)
		checkTake(t, b, 5, false)
	}
}

// Buckets know nothing of one another.
func TestNothingShared(t *testing.T) {
	one, two := start(t, 2, 9), start(t, 2, 9)
	checkTake(t, one, 9, true)
	checkLevel(t, two, 9)
	checkTake(t, two, 3, true)
	one.Tick(1)
	checkLevel(t, one, 2)
	checkLevel(t, two, 6)
}
