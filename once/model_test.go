package once_test

import (
	"bytes"
	"encoding/binary"
	"math"
	"math/rand"
	"slices"
	"testing"

	"seawall/api"
	"seawall/once"
)

// known is what a plain table has of a client, and at which act that was used last.
type known struct {
	number uint64
	busy   bool
	reply  string
	used   int
}

// plain is a table as the chapter's words tell it: clients stand in a map, and their order is told by when each was used.
type plain struct {
	most    int
	clients map[uint64]known
	acts    int
	begun   int
	again   int
}

func newPlain(most int) *plain {
	return &plain{most: most, clients: map[uint64]known{}}
}

// order: all IDs, the one that was used longest ago first.
func (p *plain) order() []uint64 {
	var l []uint64
	for id := range p.clients {
		l = append(l, id)
	}
	slices.SortFunc(l, func(a, b uint64) int { return p.clients[a].used - p.clients[b].used })
	return l
}

// set: a client is used.
func (p *plain) set(id uint64, c known) {
	p.acts++
	c.used = p.acts
	p.clients[id] = c
}

func (p *plain) begin(id, number uint64) (int, string, api.Errno) {
	if number == 0 {
		return 0, "", api.ErrArg
	}
	c, ok := p.clients[id]
	if ok && c.number > number {
		return 0, "", api.ErrOld
	}
	if ok && c.number == number {
		p.set(id, c)
		if c.busy {
			return 3, "", api.OK
		}
		p.again++
		return 2, c.reply, api.OK
	}
	if !ok && len(p.clients) == p.most && !p.forget() {
		return 0, "", api.ErrMany
	}
	p.set(id, known{number: number, busy: true})
	p.begun++
	return 1, "", api.OK
}

// forget: the first client that is not under way; false, if there is none.
func (p *plain) forget() bool {
	for _, id := range p.order() {
		if !p.clients[id].busy {
			delete(p.clients, id)
			return true
		}
	}
	return false
}

func (p *plain) end(id, number uint64, reply string) api.Errno {
	c, ok := p.clients[id]
	switch {
	case len(reply) > 200:
		return api.ErrLong
	case !ok || !c.busy || c.number != number:
		return api.ErrNone
	}
	p.set(id, known{number: number, reply: reply})
	return api.OK
}

func (p *plain) list() []api.Client {
	var l []api.Client
	for _, id := range p.order() {
		c := p.clients[id]
		l = append(l, api.Client{ID: id, Number: c.number, Busy: c.busy, Reply: []byte(c.reply)})
	}
	return l
}

func (p *plain) save() []byte {
	b := binary.AppendUvarint(nil, uint64(p.most))
	b = binary.AppendUvarint(b, uint64(len(p.clients)))
	for _, c := range p.list() {
		b = binary.AppendUvarint(b, c.ID)
		b = binary.AppendUvarint(b, c.Number)
		if c.Busy {
			b = append(b, 1)
			continue
		}
		b = append(b, 0)
		b = binary.AppendUvarint(b, uint64(len(c.Reply)))
		b = append(b, c.Reply...)
	}
	return b
}

// plainLoad: the table whose bytes these are: what is read of them, whatever its form, must be written as they are.
func plainLoad(b []byte) (*plain, bool) {
	whole := b
	number := func() uint64 {
		n, size := binary.Uvarint(b)
		b = b[max(size, 0):]
		return n
	}
	most, n := number(), number()
	if most < 1 || most > 64 || n > most {
		return nil, false
	}
	p := newPlain(int(most))
	for range n {
		id := number()
		c := known{number: number(), busy: number() == 1}
		if !c.busy {
			size := number()
			if size > 200 || size > uint64(len(b)) {
				return nil, false
			}
			c.reply = string(b[:size])
			b = b[size:]
		}
		if _, ok := p.clients[id]; ok || c.number == 0 {
			return nil, false
		}
		p.set(id, c)
	}
	return p, bytes.Equal(p.save(), whole)
}

// both is a table and a plain one: to both the same is done.
type both struct {
	x     *once.Table
	p     *plain
	early []byte // was told some time ago
	was   []byte // what it was
}

// tell: this was told just now.
func (b *both) tell(reply []byte) {
	b.early, b.was = reply, bytes.Clone(reply)
}

// check: both tell the same, and what was told some time ago is as it was.
func (b *both) check(t *testing.T) {
	t.Helper()
	checkClients(t, b.x, b.p.list()...)
	checkCounts(t, b.x, b.p.begun, b.p.again)
	checkSave(t, b.x, string(b.p.save()))
	if !bytes.Equal(b.early, b.was) {
		t.Errorf("what was told is %q, not %q", b.early, b.was)
	}
	if t.Failed() {
		t.FailNow()
	}
}

// begin: of both.
func (b *both) begin(t *testing.T, id, number uint64) {
	t.Helper()
	k, reply, err := b.x.Begin(id, number)
	wantK, want, wantErr := b.p.begin(id, number)
	if k != wantK || string(reply) != want || err != wantErr {
		t.Errorf("Begin(%d, %d): %d, %q, %d, not %d, %q, %d", id, number, k, reply, err, wantK, want, wantErr)
	}
	b.tell(reply)
}

// load: both go on as the tables that their bytes tell.
func (b *both) load(t *testing.T) {
	t.Helper()
	p, ok := plainLoad(b.p.save())
	if !ok {
		t.Fatalf("the bytes %x are not read", b.p.save())
	}
	b.x, b.p = loaded(t, string(b.p.save())), p
}

// act does one act, which bytes say, to both.
func (b *both) act(t *testing.T, h *hands) {
	t.Helper()
	switch c := h.next() % 64; {
	case c < 34:
		id := h.id(b.p.most)
		b.begin(t, id, h.number(b.p.clients[id].number))
	case c < 60:
		id := h.id(b.p.most)
		number, reply := h.number(b.p.clients[id].number), h.reply()
		checkEnd(t, b.x, id, number, reply, b.p.end(id, number, reply))
	case c < 62:
		b.load(t)
	default:
		for _, client := range b.x.Clients() {
			b.tell(client.Reply)
		}
	}
}

// hands gives numbers, one behind the other, of bytes; noughts when they are at an end.
type hands []byte

func (h *hands) next() int {
	if len(*h) == 0 {
		return 0
	}
	c := (*h)[0]
	*h = (*h)[1:]
	return int(c)
}

// id: mostly one of a few more than are remembered; now and then one far off.
func (h *hands) id(most int) uint64 {
	switch c := h.next(); {
	case c < 240:
		return uint64(c % (most + 2))
	default:
		return math.MaxUint64 - uint64(c%2)
	}
}

// number: mostly the one that a client has, or one beside it.
func (h *hands) number(had uint64) uint64 {
	switch c := h.next(); {
	case c < 120:
		return had
	case c < 210:
		return had + 1
	case c < 230:
		return had - 1
	case c < 250:
		return had + uint64(c-228)
	case c < 253:
		return 0
	default:
		return math.MaxUint64 - uint64(c-253)
	}
}

// reply: mostly a short one; now and then of the greatest size, or of more.
func (h *hands) reply() string {
	switch c := h.next(); {
	case c < 220:
		return text(c, c%5)
	case c < 240:
		return text(c, 200)
	default:
		return text(c, 201)
	}
}

// play does all acts that bytes say; the first one says how many clients are remembered.
func play(t *testing.T, row []byte) {
	h := hands(row)
	most := 1 + h.next()%8
	if most == 8 {
		most = 64
	}
	b := &both{x: made(t, most), p: newPlain(most)}
	b.check(t)
	for n := 0; len(h) > 0 && n < 1000; n++ {
		b.act(t, &h)
		b.check(t)
	}
}

func TestDrawnActs(t *testing.T) {
	for seed := range 1500 {
		draw := rand.New(rand.NewSource(int64(seed)))
		row := make([]byte, 20+draw.Intn(900))
		draw.Read(row)
		play(t, row)
	}
}

func FuzzOnce(f *testing.F) {
	f.Add([]byte("a row of acts, as the bytes say, of one table"))
	f.Add(bytes.Repeat([]byte{0, 1, 0, 121, 34, 1, 0, 9, 0, 2, 130}, 20))
	f.Add(bytes.Repeat([]byte{7, 0, 5, 200, 0, 6, 200, 60, 40, 6, 0, 230}, 10))
	f.Fuzz(play)
}

// checkBytes: bytes are of one table, which both read, or of none.
func checkBytes(t *testing.T, b []byte) {
	t.Helper()
	p, ok := plainLoad(b)
	if !ok {
		checkNoLoad(t, string(b))
		return
	}
	x := loaded(t, string(b))
	checkClients(t, x, p.list()...)
	checkCounts(t, x, 0, 0)
}

// Drawn bytes, most of them small, so that many are a table's or nearly so.
func TestDrawnBytes(t *testing.T) {
	tables := 0
	draw := rand.New(rand.NewSource(1))
	for range 200000 {
		b := []byte{byte(1 + draw.Intn(4)), byte(draw.Intn(4))}
		for range draw.Intn(20) {
			b = append(b, []byte{0, 1, 2, 3, 128, 255}[min(draw.Intn(24), draw.Intn(24))%6])
		}
		checkBytes(t, b)
		if _, ok := plainLoad(b); ok {
			tables++
		}
	}
	if t.Logf("%d were a table's", tables); tables < 1000 {
		t.Errorf("only %d were a table's", tables)
	}
}

func FuzzLoad(f *testing.F) {
	f.Add([]byte("\x02\x00"))
	f.Add([]byte("\x02\x02\x07\x01\x01\x08\x06\x00\x01r"))
	f.Add([]byte("\x40\x03\xac\x02\x02\x01\x01\x02\x00\x03abc\x00\x01\x01"))
	f.Fuzz(checkBytes)
}
