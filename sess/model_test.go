package sess_test

import (
	"bytes"
	"encoding/binary"
	"hash/crc32"
	"math/rand"
	"slices"
	"testing"

	"seawall/api"
	"seawall/sess"
)

// plainSeg: is it a segment?
func plainSeg(s api.Seg) bool {
	isPiece := !s.Ack && s.Seq >= 1 && len(s.Body) <= 1000
	isAnswer := s.Ack && len(s.Body) == 0
	return isPiece || isAnswer
}

// plainSender is a sender as the chapter's words tell it: all pieces it was given, at which ticks each was sent, and all that it heard, are kept for ever.
type plainSender struct {
	life   uint64
	window int
	span   int
	ticks  int
	given  [][]byte
	sent   [][]int
	heard  []uint64
}

// known: up to which number all are known to have come.
func (p *plainSender) known() int {
	most := uint64(0)
	for _, n := range p.heard {
		most = max(most, n)
	}
	return int(most)
}

func (p *plainSender) left() int {
	return len(p.given) - p.known()
}

func (p *plainSender) push(body []byte) api.Errno {
	if len(body) > 1000 {
		return api.ErrLong
	}
	if p.left() == 128 {
		return api.ErrFull
	}
	p.given = append(p.given, slices.Clone(body))
	p.sent = append(p.sent, nil)
	return api.OK
}

func (p *plainSender) tick() []api.Seg {
	p.ticks++
	var l []api.Seg
	for at := range p.given {
		first := p.known()
		if at < first || at >= first+p.window {
			continue
		}
		if times := p.sent[at]; len(times) == 0 || p.ticks-times[len(times)-1] >= p.span {
			p.sent[at] = append(times, p.ticks)
			l = append(l, api.Seg{Life: p.life, Seq: uint64(at + 1), Body: p.given[at]})
		}
	}
	return l
}

func (p *plainSender) hear(s api.Seg) api.Errno {
	switch {
	case !plainSeg(s):
		return api.ErrArg
	case !s.Ack:
		return api.ErrKind
	case s.Life != p.life:
		return api.ErrOld
	case s.Seq > uint64(len(p.given)):
		return api.ErrForm
	}
	p.heard = append(p.heard, s.Seq)
	return api.OK
}

// plainReceiver is a receiver as the chapter's words tell it: all that it heard is kept for ever, and where it stands is found anew each time.
type plainReceiver struct {
	window uint64
	heard  []api.Seg
}

// stands: its life, the pieces of that which it kept (those that came, too), and up to which number all came.
func (p *plainReceiver) stands() (uint64, map[uint64][]byte, uint64) {
	life, kept, came := uint64(0), map[uint64][]byte{}, uint64(0)
	for _, s := range p.heard {
		if s.Life > life {
			life, kept, came = s.Life, map[uint64][]byte{}, 0
		}
		if _, has := kept[s.Seq]; !has && s.Seq > came && s.Seq-came <= p.window {
			kept[s.Seq] = s.Body
		}
		for kept[came+1] != nil {
			came++
		}
	}
	return life, kept, came
}

func (p *plainReceiver) hear(s api.Seg) ([][]byte, api.Seg, api.Errno) {
	old, _, from := p.stands()
	switch {
	case !plainSeg(s):
		return nil, api.Seg{}, api.ErrArg
	case s.Ack:
		return nil, api.Seg{}, api.ErrKind
	case s.Life < old:
		return nil, api.Seg{}, api.ErrOld
	}
	// Never nil, so that it can be told from what is not kept.
	s.Body = append([]byte{}, s.Body...)
	p.heard = append(p.heard, s)
	life, kept, to := p.stands()
	if life > old {
		from = 0
	}
	var l [][]byte
	for n := from + 1; n <= to; n++ {
		l = append(l, kept[n])
	}
	return l, api.Seg{Life: life, Seq: to, Ack: true}, api.OK
}

// plainParse: what Parse must answer, told by what each segment's bytes are.
func plainParse(b []byte) (api.Seg, bool) {
	if len(b) < 10 || b[0] != 0xa7 || b[1] != 3 && b[1] != 4 {
		return api.Seg{}, false
	}
	body := b[6 : len(b)-4]
	life, n := binary.Uvarint(body)
	seq, m := binary.Uvarint(body[max(n, 0):])
	if n <= 0 || m <= 0 {
		return api.Seg{}, false
	}
	s := api.Seg{Life: life, Seq: seq, Ack: b[1] == 4, Body: body[n+m:]}
	return s, plainSeg(s) && bytes.Equal(b, plainBytes(s))
}

func plainBytes(s api.Seg) []byte {
	kind := byte(3)
	if s.Ack {
		kind = 4
	}
	return framed(kind, append(numbers(s.Life, s.Seq), s.Body...))
}

// line is a sender and a receiver, each beside a plain one, and what is under way between them, as bytes.
type line struct {
	x      *sess.Sender
	px     *plainSender
	y      *sess.Receiver
	py     *plainReceiver
	out    [][]byte
	back   [][]byte
	given  map[uint64][][]byte // to the sender of each life
	came   map[uint64][][]byte // what the receiver answered, of each life
	forged bool                // were there segments that nobody sent?
}

// newLine: of a receiver, and of a sender whose life is above those before.
func newLine(t *testing.T, h *hands) *line {
	t.Helper()
	l := &line{given: map[uint64][][]byte{}, came: map[uint64][][]byte{}}
	window := h.window()
	l.y, l.py = receiver(t, window), &plainReceiver{window: uint64(window)}
	l.begin(t, uint64(h.next()%3), h)
	return l
}

// begin: the sender was down, and begins a life.
func (l *line) begin(t *testing.T, life uint64, h *hands) {
	t.Helper()
	window, span := h.window(), h.next()%5+1
	l.x, l.px = sender(t, life, window, span), &plainSender{life: life, window: window, span: span}
}

func (l *line) push(t *testing.T, body []byte) {
	t.Helper()
	err, want := l.x.Push(body), l.px.push(body)
	if err != want {
		t.Fatalf("Push of %d bytes: %d, not %d", len(body), err, want)
	}
	if err == api.OK {
		l.given[l.px.life] = append(l.given[l.px.life], slices.Clone(body))
	}
	spoil(body)
}

func (l *line) tick(t *testing.T) {
	t.Helper()
	got, want := l.x.Tick(), l.px.tick()
	if !slices.EqualFunc(got, want, same) {
		t.Fatalf("sent are %v, not %v", got, want)
	}
	for _, s := range got {
		l.out = append(l.out, wire(t, s))
		spoil(s.Body)
	}
}

// wire: a segment's bytes.
func wire(t *testing.T, s api.Seg) []byte {
	t.Helper()
	b, err := sess.Bytes(s)
	if err != api.OK || !bytes.Equal(b, plainBytes(s)) {
		t.Fatalf("Bytes(%v): %x, %d", s, b, err)
	}
	return b
}

// read: the segment of bytes that are right.
func read(t *testing.T, b []byte) api.Seg {
	t.Helper()
	s, err := sess.Parse(b)
	want, ok := plainParse(b)
	if !ok || err != api.OK || !same(s, want) {
		t.Fatalf("Parse(%x): %v, %d", b, s, err)
	}
	return s
}

// arrive: the receiver hears of a segment, and its answer is under way.
func (l *line) arrive(t *testing.T, s api.Seg) {
	t.Helper()
	want, wantAck, wantErr := l.py.hear(s)
	got, answer, err := l.y.Hear(s)
	if err != wantErr || !same(answer, wantAck) || !slices.EqualFunc(got, want, bytes.Equal) {
		t.Fatalf("Hear(%v): %q, %v, %d, not %q, %v, %d", s, got, answer, err, want, wantAck, wantErr)
	}
	if err == api.OK {
		l.back = append(l.back, wire(t, answer))
		for _, body := range got {
			l.came[s.Life] = append(l.came[s.Life], slices.Clone(body))
		}
	}
	for _, body := range got {
		spoil(body)
	}
	spoil(s.Body)
}

// answered: the sender hears of a segment.
func (l *line) answered(t *testing.T, s api.Seg) {
	t.Helper()
	if err, want := l.x.Hear(s), l.px.hear(s); err != want {
		t.Fatalf("Hear(%v) of the sender: %d, not %d", s, err, want)
	}
}

// check: what is to be seen of both, and what holds of what came.
func (l *line) check(t *testing.T) {
	t.Helper()
	if l.x.Left() != l.px.left() {
		t.Fatalf("%d are left, not %d", l.x.Left(), l.px.left())
	}
	life, _, came := l.py.stands()
	checkGot(t, l.y, life, came)
	if l.forged {
		return
	}
	for life, came := range l.came {
		given := l.given[life]
		if len(came) > len(given) || !slices.EqualFunc(came, given[:len(came)], bytes.Equal) {
			t.Fatalf("of the life %d came %q, which is not how %q begins", life, came, given)
		}
	}
}

// finish: if all segments come, tick by tick, all pieces come.
func (l *line) finish(t *testing.T) {
	t.Helper()
	l.out, l.back = nil, nil
	for range 5 * (l.x.Left() + 1) {
		l.tick(t)
		for _, b := range l.out {
			l.arrive(t, read(t, b))
		}
		for _, b := range l.back {
			l.answered(t, read(t, b))
		}
		l.out, l.back = nil, nil
		l.check(t)
	}
	if came, given := l.came[l.px.life], l.given[l.px.life]; len(came) < len(given) || l.x.Left() > 0 {
		t.Fatalf("%d of %d pieces came, %d are left", len(came), len(given), l.x.Left())
	}
}

// hands gives numbers, one behind the other, of bytes; noughts when they are at an end.
type hands []byte

func (h *hands) next() int {
	if len(*h) == 0 {
		return 0
	}
	c := (*h)[0]
	*h = (*h)[1:]
	return int(c)
}

// window: mostly a small one.
func (h *hands) window() int {
	c := h.next()
	if c < 200 {
		return c%5 + 1
	}
	return c%64 + 1
}

// body: mostly a short text; now and then as long as may be, or longer.
func (h *hands) body() []byte {
	c := h.next()
	size := c % 5
	if c >= 240 {
		size = 998 + c%5
	}
	return bytes.Repeat([]byte{byte(h.next())}, size)
}

// pick: a place in a list, and now and then the last.
func (h *hands) pick(size int) int {
	return h.next() % size
}

// forge: a segment that nobody sent, or none.
func (h *hands) forge(life uint64) api.Seg {
	s := api.Seg{Life: life - 1 + uint64(h.next()%3), Seq: uint64(h.next() % 9), Ack: h.next()%2 == 0}
	switch c := h.next(); {
	case c > 250:
		s.Seq = topmost - s.Seq
	case c > 160:
		s.Body = h.body()
	}
	return s
}

// pass: what is under way and is picked comes, again and again perhaps, or is lost.
func (h *hands) pass(wires *[][]byte, come func([]byte)) {
	if len(*wires) == 0 {
		return
	}
	at, c := h.pick(len(*wires)), h.next()%8
	b := (*wires)[at]
	if c < 6 {
		*wires = slices.Delete(*wires, at, at+1)
	}
	if c > 0 {
		come(b)
	}
}

// act does one act, which bytes say.
func (l *line) act(t *testing.T, h *hands) {
	t.Helper()
	switch c := h.next() % 32; {
	case c < 7:
		l.push(t, h.body())
	case c < 8:
		for range h.next() {
			l.push(t, []byte{1})
		}
	case c < 15:
		l.tick(t)
	case c < 23:
		h.pass(&l.out, func(b []byte) { l.arrive(t, read(t, b)) })
	case c < 29:
		h.pass(&l.back, func(b []byte) { l.answered(t, read(t, b)) })
	case c < 30:
		life := l.px.life + uint64(h.next()%3) + 1
		l.begin(t, life, h)
	case l.forged && c < 31:
		l.arrive(t, h.forge(l.px.life))
	case l.forged:
		l.answered(t, h.forge(l.px.life))
	}
}

// play does all acts that bytes say.
func play(t *testing.T, row []byte) {
	h := hands(row)
	l := newLine(t, &h)
	l.forged = h.next()%2 == 1
	for n := 0; len(h) > 0 && n < 500; n++ {
		l.act(t, &h)
		l.check(t)
	}
	if !l.forged {
		l.finish(t)
	}
}

func TestDrawnActs(t *testing.T) {
	for seed := range 600 {
		draw := rand.New(rand.NewSource(int64(seed)))
		row := make([]byte, draw.Intn(900))
		draw.Read(row)
		play(t, row)
	}
}

func FuzzSess(f *testing.F) {
	f.Add([]byte("a row of acts, as the bytes say"))
	f.Add(bytes.Repeat([]byte{1, 9, 14, 20, 25}, 40))
	f.Add(slices.Repeat([]byte{1, 2, 3, 0, 8, 15, 0, 1, 23, 0, 1}, 30))
	f.Fuzz(play)
}

// parsed holds Parse of bytes against the plain words.
func parsed(t *testing.T, b []byte) {
	t.Helper()
	s, err := sess.Parse(b)
	want, ok := plainParse(b)
	if ok != (err == api.OK) || ok && !same(s, want) || !ok && !isZero(s) {
		t.Fatalf("Parse(%x): %v, %d", b, s, err)
	}
	if !ok {
		return
	}
	if again, err := sess.Bytes(s); err != api.OK || !bytes.Equal(again, b) {
		t.Fatalf("Bytes(%v): %x, %d, not %x", s, again, err, b)
	}
}

// summed: bytes whose last four are set right, so that they are a frame more often.
func summed(b []byte) []byte {
	if len(b) < 10 {
		return b
	}
	b = slices.Clone(b[:len(b)-4])
	b[0], b[1] = 0xa7, b[1]%3+2
	binary.BigEndian.PutUint32(b[2:], uint32(len(b)-6))
	return binary.BigEndian.AppendUint32(b, crc32.ChecksumIEEE(b))
}

func TestDrawnBytes(t *testing.T) {
	draw := rand.New(rand.NewSource(7))
	for range 20000 {
		b := make([]byte, draw.Intn(40))
		draw.Read(b)
		for i := range b {
			if draw.Intn(2) == 0 {
				b[i] %= 3
			}
		}
		parsed(t, b)
		parsed(t, summed(b))
	}
	for size := 1000; size < 1050; size++ {
		for _, numbers := range [][]byte{{1, 1}, {0x80, 1, 1}, {1, 0x80, 0x80, 1}} {
			b := append(make([]byte, 6), numbers...)
			b = append(b, make([]byte, size)...)
			parsed(t, summed(b))
		}
	}
}

func FuzzParse(f *testing.F) {
	f.Add(framed(3, []byte{1, 2, 'x'}))
	f.Add(framed(4, []byte{1, 0}))
	f.Add(framed(3, append(numbers(300, 1<<40), filled(1000)...)))
	f.Fuzz(func(t *testing.T, b []byte) {
		parsed(t, b)
		parsed(t, summed(b))
	})
}
