package bucket_test

import (
	"bytes"
	"math/big"
	"math/rand"
	"sort"
	"testing"

	"seawall/bucket"
)

// plain is a bucket as the chapter's words tell it, with numbers that know no end.
type plain struct {
	rate  int
	burst int
	level int
}

// after: what is there when so many ticks have gone by.
func (p *plain) after(ticks int) int {
	if ticks < 1 {
		return p.level
	}
	sum := new(big.Int).Mul(big.NewInt(int64(ticks)), big.NewInt(int64(p.rate)))
	sum.Add(sum, big.NewInt(int64(p.level)))
	if sum.Cmp(big.NewInt(int64(p.burst))) > 0 {
		return p.burst
	}
	return int(sum.Int64())
}

func (p *plain) tick(ticks int) {
	p.level = p.after(ticks)
}

func (p *plain) take(n int) bool {
	is := n >= 1 && n <= p.level
	if is {
		p.level -= n
	}
	return is
}

// wait: the first of all numbers of ticks that is enough.
func (p *plain) wait(n int) int {
	const far = 1000000 // where the bucket is full, if anything comes
	if n < 1 || p.after(far) < n {
		return -1
	}
	return sort.Search(far, func(ticks int) bool { return p.after(ticks) >= n })
}

// plainBack: how long to wait, as the chapter's words tell it.
func plainBack(base, most, tries int, own uint64) int {
	if base < 1 || tries < 1 {
		return 0
	}
	whole, top, bound := big.NewInt(int64(base)), big.NewInt(int64(most)), big.NewInt(1<<62)
	if top.Cmp(whole) < 0 {
		top.Set(whole)
	}
	whole.Lsh(whole, uint(min(tries-1, 100))) // 100 doublings are above all that may be
	for _, least := range []*big.Int{top, bound} {
		if whole.Cmp(least) > 0 {
			whole.Set(least)
		}
	}
	other := new(big.Int).Rsh(whole, 1)
	first := new(big.Int).Sub(whole, other)
	more := new(big.Int).SetUint64(own)
	more.Mod(more, other.Add(other, big.NewInt(1)))
	return int(first.Add(first, more).Int64())
}

// both is a bucket and a plain one: to both the same is done.
type both struct {
	b *bucket.Bucket
	p *plain
}

// check: both tell the same.
func (b *both) check(t *testing.T, n int) {
	t.Helper()
	checkLevel(t, b.b, b.p.level)
	level := b.p.level
	for _, n := range []int{-1, 0, 1, level - 1, level, level + 1, level + b.p.rate, level + b.p.rate + 1, b.p.burst, b.p.burst + 1, n} {
		checkWait(t, b.b, n, b.p.wait(n))
	}
}

// act does one act, which bytes say, to both.
func (b *both) act(t *testing.T, h *hands) {
	t.Helper()
	n := h.number(b.p)
	switch h.next() % 8 {
	case 0, 1, 2:
		b.b.Tick(n)
		b.p.tick(n)
	case 3, 4, 5:
		checkTake(t, b.b, n, b.p.take(n))
	case 6:
		b.wait(t, n)
	case 7:
		base, most, tries, own := h.number(b.p), h.number(b.p), h.number(b.p), uint64(h.number(b.p))<<(h.next()%3)
		checkBack(t, base, most, tries, own, plainBack(base, most, tries, own))
	}
	b.check(t, n)
	if t.Failed() {
		t.FailNow()
	}
}

// wait: as many ticks as are said are enough, and fewer are not.
func (b *both) wait(t *testing.T, n int) {
	t.Helper()
	ticks := b.b.Wait(n)
	for _, part := range []int{ticks / 3, ticks - 1 - ticks/3} {
		b.b.Tick(part)
		b.p.tick(part)
	}
	checkTake(t, b.b, n, ticks == 0)
	if ticks == 0 {
		b.p.take(n)
	}
	if ticks > 0 {
		b.b.Tick(1)
		checkTake(t, b.b, n, true)
		b.p.tick(1)
		b.p.take(n)
	}
}

// hands gives numbers, one behind the other, of bytes; noughts when they are at an end.
type hands []byte

func (h *hands) next() int {
	if len(*h) == 0 {
		return 0
	}
	c := (*h)[0]
	*h = (*h)[1:]
	return int(c)
}

// bits: a number of so many bytes.
func (h *hands) bits(n int) int {
	sum := uint64(0)
	for range n {
		sum = sum<<8 | uint64(h.next())
	}
	return int(sum)
}

// number: a small one mostly, else one that a bucket is near to, or one of any size.
func (h *hands) number(p *plain) int {
	switch c := h.next() % 32; {
	case c < 16:
		return h.next() % 16
	case c < 20:
		return p.level + h.next()%3 - 1
	case c < 22:
		return p.burst + h.next()%3 - 1
	case c < 24:
		return p.burst/max(p.rate, 1) + h.next()%3 - 1
	case c < 26:
		return -h.next()
	default:
		return h.bits(1 + h.next()%8)
	}
}

// size: what a bucket may have, from the least one on.
func (h *hands) size(least int) int {
	switch c := h.next() % 8; {
	case c < 4:
		return least + h.next()%8
	case c < 7:
		return least + h.bits(2)
	}
	return 1000000 - h.next()%4
}

// play does all acts that bytes say.
func play(t *testing.T, row []byte) {
	h := hands(row)
	rate, burst := h.size(0), h.size(1)
	b := &both{b: start(t, rate, burst), p: &plain{rate: rate, burst: burst, level: burst}}
	b.check(t, 0)
	for n := 0; len(h) > 0 && n < 200; n++ {
		b.act(t, &h)
	}
}

func TestDrawnActs(t *testing.T) {
	for seed := range 1000 {
		draw := rand.New(rand.NewSource(int64(seed)))
		row := make([]byte, 20+draw.Intn(600))
		draw.Read(row)
		play(t, row)
	}
}

// What is waited, of numbers of all sizes, near powers of two and anywhere.
func TestDrawnBacks(t *testing.T) {
	draw := rand.New(rand.NewSource(15))
	number := func() int {
		n := draw.Intn(1<<62) >> draw.Intn(63)
		if draw.Intn(2) == 0 {
			n = 1<<draw.Intn(63) + draw.Intn(5) - 2
		}
		return n
	}
	for range 200000 {
		base, most, tries, own := number(), number(), number(), draw.Uint64()>>draw.Intn(64)
		if draw.Intn(4) > 0 {
			tries = draw.Intn(70)
		}
		checkBack(t, base, most, tries, own, plainBack(base, most, tries, own))
	}
}

func FuzzBucket(f *testing.F) {
	f.Add([]byte("a row of acts, as the bytes say, of one bucket"))
	f.Add(append([]byte{0, 3, 0, 9}, bytes.Repeat([]byte{0, 7, 3, 0, 3, 0, 0, 7, 6}, 20)...))
	f.Add(append([]byte{7, 0, 7, 0}, bytes.Repeat([]byte{16, 1, 3, 31, 7, 127, 255, 255, 255, 255, 255, 255, 255, 0}, 10)...))
	f.Fuzz(play)
}
