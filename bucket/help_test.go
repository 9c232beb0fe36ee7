package bucket_test

import (
	"testing"

	"seawall/api"
	"seawall/bucket"
)

// start: a new bucket.
func start(t *testing.T, rate, burst int) *bucket.Bucket {
	t.Helper()
	b, err := bucket.New(rate, burst)
	if err != api.OK || b == nil {
		t.Fatalf("New(%d, %d): %v, %d", rate, burst, b, err)
	}
	return b
}

func checkTake(t *testing.T, b *bucket.Bucket, n int, want bool) {
	t.Helper()
	if is := b.Take(n); is != want {
		t.Errorf("Take(%d): %t, not %t", n, is, want)
	}
}

func checkLevel(t *testing.T, b *bucket.Bucket, want int) {
	t.Helper()
	if level := b.Level(); level != want {
		t.Errorf("Level: %d, not %d", level, want)
	}
}

func checkWait(t *testing.T, b *bucket.Bucket, n, want int) {
	t.Helper()
	if ticks := b.Wait(n); ticks != want {
		t.Errorf("Wait(%d): %d, not %d", n, ticks, want)
	}
}

func checkBack(t *testing.T, base, most, tries int, own uint64, want int) {
	t.Helper()
	if ticks := bucket.Back(base, most, tries, own); ticks != want {
		t.Errorf("Back(%d, %d, %d, %d): %d, not %d", base, most, tries, own, ticks, want)
	}
}
