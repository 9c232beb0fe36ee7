package bucket_test

import (
	"math/rand"
	"testing"
)

// In any ticks no more than burst, and rate for each of them, are taken: of each row of moments, from each of them on.
func TestNeverFaster(t *testing.T) {
	near := 0
	for seed := range 300 {
		draw := rand.New(rand.NewSource(int64(seed)))
		rate, burst := draw.Intn(8), 1+draw.Intn(30)
		b := start(t, rate, burst)
		took := make([]int, 60) // of each moment
		for now := range took {
			for range draw.Intn(1 + seed%10) {
				if n := 1 + draw.Intn(12); b.Take(n) {
					took[now] += n
				}
			}
			b.Tick(1)
		}
		for from := range took {
			sum := 0
			for to := from; to < len(took); to++ {
				sum += took[to]
				bound := burst + rate*(to-from)
				if sum > bound {
					t.Fatalf("at seed %d: %d taken from %d to %d, of rate %d, burst %d", seed, sum, from, to, rate, burst)
				}
				if sum == bound && to > from {
					near++
				}
			}
		}
	}
	if near < 1000 {
		t.Errorf("only %d times as much was taken as may be", near)
	}
}

// Who takes all there is gets all that comes.
func TestNothingIsLost(t *testing.T) {
	for rate := range 12 {
		b := start(t, rate, 11)
		sum := 11
		checkTake(t, b, 11, true)
		for range 50 {
			b.Tick(1)
			n := b.Level()
			checkTake(t, b, n, n > 0)
			sum += n
		}
		if want := 11 + 50*rate; sum != want {
			t.Errorf("of rate %d: %d were taken, not %d", rate, sum, want)
		}
	}
}

// Behind Wait(n) ticks Take(n) is true, and behind fewer it is not: of all small buckets.
func TestWaitIsTrue(t *testing.T) {
	for rate := range 7 {
		for burst := 1; burst < 14; burst++ {
			for took := range burst + 1 {
				for n := -1; n < burst+3; n++ {
					b := start(t, rate, burst)
					b.Take(took)
					ticks := b.Wait(n)
					if ticks == -1 {
						b.Tick(1 << 40)
						checkTake(t, b, n, false)
						continue
					}
					for range ticks {
						checkTake(t, b, n, false)
						b.Tick(1)
					}
					checkTake(t, b, n, true)
				}
			}
		}
	}
}
