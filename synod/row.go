package synod

import (
	"slices"

	"seawall/api"
)

// row is letters, the one sent first ahead; what they say is never changed, so several may share it.
type row []api.Mail

// send puts a letter behind all others; false, if it is lost, as there is no room.
func (r *row) send(m api.Mail) bool {
	if len(*r) >= api.MaxMail {
		return false
	}
	*r = append(*r, m)
	return true
}

// cut takes a letter that is there out of the row.
func (r *row) cut(at int) api.Mail {
	m := (*r)[at]
	*r = slices.Delete(*r, at, at+1)
	return m
}
