package once

import (
	"seawall/api"
	"seawall/bin"
)

// What stands behind a client's Number; behind idle stands the reply.
const (
	idle = 0
	busy = 1
)

// Save: the table's bytes.
func (t *Table) Save() []byte {
	if t == nil {
		return nil
	}
	b := bin.PutUint(uint64(t.most))
	b = append(b, bin.PutUint(uint64(len(t.clients)))...)
	for _, c := range t.clients {
		b = append(b, saveClient(c)...)
	}
	return b
}

func saveClient(c api.Client) []byte {
	b := append(bin.PutUint(c.ID), bin.PutUint(c.Number)...)
	if c.Busy {
		return append(b, bin.PutUint(busy)...)
	}
	b = append(b, bin.PutUint(idle)...)
	return append(b, bin.PutBytes(c.Reply)...)
}

// Load: the table of bytes.
func Load(b []byte) (*Table, api.Errno) {
	r := bin.New(b)
	most := r.Uint()
	n := r.Uint()
	// Held against each other as numbers of 64 bits: an int may have no room for them.
	if most > api.MaxClients || n > most {
		return nil, api.ErrForm
	}
	t, err := New(int(most))
	if err != api.OK {
		return nil, api.ErrForm
	}
	for range n {
		c, ok := loadClient(r)
		_, known := t.find(c.ID)
		if !ok || known {
			return nil, api.ErrForm
		}
		t.add(c)
	}
	if r.Err() != api.OK || r.Left() > 0 {
		return nil, api.ErrForm
	}
	return t, api.OK
}

// loadClient: false, if there may be no such client; a reader's error is told by itself.
func loadClient(r *bin.Reader) (api.Client, bool) {
	c := api.Client{ID: r.Uint(), Number: r.Uint()}
	switch r.Uint() {
	case idle:
		c.Reply = r.Bytes(api.MaxReply)
	case busy:
		c.Busy = true
	default:
		return api.Client{}, false
	}
	return c, c.Number > 0
}
