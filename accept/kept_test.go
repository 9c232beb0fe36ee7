package accept

import (
	"testing"

	"seawall/api"
	"seawall/disk"
)

// A vote that was trimmed is kept no more, not in the room beside the others either; when all is over nothing is.
func TestKeepsNoMore(t *testing.T) {
	d, _ := disk.New(600)
	a, _ := Open(d)
	for slot := range uint64(70) {
		a.Accept(api.Vote{Slot: slot + 1, Ballot: api.Ballot{N: 1}, Value: []byte("x")})
	}
	room := a.votes[:cap(a.votes)] // which the votes that stay have, too
	for _, upto := range []uint64{3, 50, 70, 70} {
		a.Trim(upto)
		there := 0
		for _, v := range room {
			if v.Value != nil {
				there++
			}
		}
		if there != len(a.votes) {
			t.Errorf("behind a Trim up to %d %d votes are kept, not %d", upto, there, len(a.votes))
		}
	}
	a.Accept(api.Vote{Slot: 1, Ballot: api.Ballot{N: 1}, Value: []byte("x")})
	d.Arm(0)
	a.Trim(1)
	if a.votes != nil || a.kept != nil {
		t.Error("the power is gone, and something is kept")
	}
}
