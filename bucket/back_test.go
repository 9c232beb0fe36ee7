package bucket_test

import (
	"math"
	"testing"

	"seawall/bucket"
)

// half: of a whole, upwards; what one waits whose own number is 0.
func half(whole int) int {
	return whole - whole/2
}

// Each try doubles, up to most.
func TestBackDoubles(t *testing.T) {
	for i, whole := range []int{4, 8, 16, 32, 64, 100, 100, 100} {
		checkBack(t, 4, 100, i+1, 0, half(whole))
		checkBack(t, 4, 100, i+1, uint64(whole/2), whole)
	}
	for i, whole := range []int{3, 6, 12, 24, 24, 24} {
		checkBack(t, 3, 24, i+1, 0, half(whole))
	}
	for i, whole := range []int{3, 6, 12, 23, 23, 23} {
		checkBack(t, 3, 23, i+1, 0, half(whole))
	}
	for i, whole := range []int{3, 6, 12, 24, 25, 25} {
		checkBack(t, 3, 25, i+1, 0, half(whole))
	}
}

// The own number goes round in the other half, and 1.
func TestBackOwn(t *testing.T) {
	for own, want := range []int{8, 9, 10, 11, 12, 13, 14, 15, 16, 8, 9, 10} {
		checkBack(t, 16, 16, 1, uint64(own), want)
	}
	for own, want := range []int{3, 4, 5, 3, 4, 5} { // of 5: 3, and 0 to 2
		checkBack(t, 5, 5, 1, uint64(own), want)
	}
	for own, want := range []int{1, 2, 1, 2} {
		checkBack(t, 2, 2, 1, uint64(own), want)
	}
	for own := range uint64(4) { // of 1: there is no other half
		checkBack(t, 1, 1, 1, own, 1)
	}
	checkBack(t, 16, 16, 1, math.MaxUint64, 8+6) // 2^64 - 1 is 6 above a multiple of 9
	checkBack(t, 16, 16, 1, 1<<63, 8+8)
	checkBack(t, 5, 5, 1, math.MaxUint64, 3)
}

// Who may not wait, or has not tried, waits not at all.
func TestBackNothing(t *testing.T) {
	for _, n := range []int{math.MinInt, -100, -1, 0} {
		checkBack(t, n, 100, 1, 7, 0)
		checkBack(t, n, math.MaxInt, math.MaxInt, 7, 0)
		checkBack(t, 4, 100, n, 7, 0)
		checkBack(t, n, n, n, 7, 0)
	}
	checkBack(t, 1, 1, 1, 7, 1)
}

// A most below base counts as base.
func TestBackMost(t *testing.T) {
	for _, most := range []int{math.MinInt, -1, 0, 1, 6, 7} {
		for _, tries := range []int{1, 2, 3, 100, math.MaxInt} {
			checkBack(t, 7, most, tries, 0, 4)
			checkBack(t, 7, most, tries, 3, 7)
		}
	}
	checkBack(t, 7, 8, 1, 3, 7)
	checkBack(t, 7, 8, 2, 4, 8)
}

// What is waited is at most 2^62, whatever base and most are.
func TestBackGreat(t *testing.T) {
	const top = 1 << 62
	for _, base := range []int{top - 1, top, top + 1, math.MaxInt - 1, math.MaxInt} {
		for _, most := range []int{math.MinInt, 0, 1, top - 2, top - 1} {
			whole := min(base, top)
			for _, tries := range []int{1, 2, 3, math.MaxInt} {
				checkBack(t, base, most, tries, 0, half(whole))
				checkBack(t, base, most, tries, uint64(whole/2), whole)
			}
		}
		for _, most := range []int{top, top + 1, math.MaxInt} {
			checkBack(t, base, most, 1, 0, half(min(base, top)))
			checkBack(t, base, most, 2, 0, top/2)
			checkBack(t, base, most, 2, top/2, top)
			checkBack(t, base, most, 2, top/2+1, top/2)
		}
	}
}

// One token is doubled at each of so many tries, to 2^62 and no further.
func TestBackAllDoublings(t *testing.T) {
	for tries := 1; tries < 200; tries++ {
		whole := 1 << min(tries-1, 62)
		checkBack(t, 1, math.MaxInt, tries, 0, half(whole))
		checkBack(t, 1, math.MaxInt, tries, uint64(whole/2), whole)
	}
	for tries := 1; tries < 200; tries++ {
		whole := 3 << min(tries-1, 60)
		if tries > 61 {
			whole = 1 << 62
		}
		checkBack(t, 3, math.MaxInt, tries, 0, half(whole))
	}
	for _, tries := range []int{1 << 20, 1 << 40, 1 << 62, math.MaxInt - 1, math.MaxInt} {
		checkBack(t, 1, math.MaxInt, tries, 0, 1<<61)
		checkBack(t, 1, 1, tries, 0, 1)
		checkBack(t, 5, 1000, tries, 500, 1000)
	}
}

// With more tries it never falls by more than half, and never is above most.
func TestBackNeverFallsFar(t *testing.T) {
	owns := []uint64{0, 1, 2, 3, 4, 5, 6, 7, 11, 100, 1<<61 - 1, 1 << 61, 1<<61 + 1, 1 << 62, 1 << 63, math.MaxUint64}
	greats := []int{1<<61 + 3, 1<<62 - 1, 1 << 62, math.MaxInt}
	for _, base := range append([]int{1, 2, 3, 5, 7, 8, 100, 1<<40 + 1}, greats...) {
		for _, most := range append([]int{0, 1, 9, 10, 64, 1000, 1 << 41}, greats...) {
			top, greatest := max(base, most), 0
			for tries := 1; tries < 70; tries++ {
				least := 0
				for _, own := range owns {
					ticks := bucket.Back(base, most, tries, own)
					if ticks > top || ticks < 1 {
						t.Errorf("Back(%d, %d, %d, %d): %d", base, most, tries, own, ticks)
					}
					if least == 0 || ticks < least {
						least = ticks
					}
					greatest = max(greatest, ticks)
				}
				if least < half(greatest) {
					t.Errorf("Back(%d, %d, %d): %d behind %d", base, most, tries, least, greatest)
				}
			}
		}
	}
}
