package quorum_test

import (
	"math/rand"
	"slices"
	"testing"

	"seawall/api"
	"seawall/quorum"
)

// The chapter's words told plainly: node by node, and set by set.

// plainRight: Right's answer.
func plainRight(q api.Quorum) api.Errno {
	between := func(n, least, most int) bool { return least <= n && n <= most }
	if !between(q.Kind, 1, 3) || !between(q.Nodes, 1, 12) {
		return api.ErrArg
	}
	if q.Kind == 3 {
		for _, site := range q.Sites {
			if !between(site, 0, 11) {
				return api.ErrArg
			}
		}
		if len(q.Sites) != q.Nodes {
			return api.ErrArg
		}
		return api.OK
	}
	if !between(q.One, 1, q.Nodes) || !between(q.Two, 1, q.Nodes) {
		return api.ErrArg
	}
	if q.Kind == 1 && !(q.One+q.Two > q.Nodes) {
		return api.ErrMeet
	}
	if q.Kind == 2 && q.One*q.Two != q.Nodes {
		return api.ErrArg
	}
	return api.OK
}

// has: is the node in the set?
func has(set uint32, node int) bool {
	return set>>node%2 == 1
}

// size: how many of so many nodes the set has.
func size(set uint32, nodes int) int {
	n := 0
	for node := range nodes {
		if has(set, node) {
			n++
		}
	}
	return n
}

// plainFirst: of a q that is Right.
func plainFirst(q api.Quorum, set uint32) bool {
	switch q.Kind {
	case 1:
		return size(set, q.Nodes) >= q.One
	case 2:
		for row := range q.One {
			n := 0
			for node := range q.Nodes {
				if node/q.Two == row && has(set, node) {
					n++
				}
			}
			if n == q.Two {
				return true
			}
		}
		return false
	}
	met := map[int]bool{}
	for node, site := range q.Sites {
		met[site] = met[site] || has(set, node)
	}
	for _, ok := range met {
		if !ok {
			return false
		}
	}
	return true
}

// plainSecond: of a q that is Right.
func plainSecond(q api.Quorum, set uint32) bool {
	switch q.Kind {
	case 1:
		return size(set, q.Nodes) >= q.Two
	case 2:
		for column := range q.Two {
			n := 0
			for node := range q.Nodes {
				if node%q.Two == column && has(set, node) {
					n++
				}
			}
			if n == q.One {
				return true
			}
		}
		return false
	}
	lacks := map[int]bool{}
	for node, site := range q.Sites {
		lacks[site] = lacks[site] || !has(set, node)
	}
	for _, some := range lacks {
		if !some {
			return true
		}
	}
	return false
}

// plain is all that the words say of a q that is Right, for each set.
type plain struct {
	q             api.Quorum
	first, second []bool
}

func newPlain(q api.Quorum) *plain {
	p := &plain{q: q}
	for set := range uint32(1) << q.Nodes {
		p.first = append(p.first, plainFirst(q, set))
		p.second = append(p.second, plainSecond(q, set))
	}
	return p
}

// least: the quorums of which no part is one.
func (p *plain) least(second bool) []uint32 {
	is := p.first
	if second {
		is = p.second
	}
	var l []uint32
	for set := range uint32(len(is)) {
		whole := is[set]
		for part := set; part > 0 && whole; {
			part = (part - 1) & set
			whole = !is[part]
		}
		if whole {
			l = append(l, set)
		}
	}
	return l
}

// reach: with so many gone, or all.
func (p *plain) reach(more int) api.Errno {
	if more < 0 {
		return api.ErrArg
	}
	full := uint32(len(p.first) - 1)
	for gone := range full + 1 {
		if n := size(gone, p.q.Nodes); n == more || n == p.q.Nodes && more > n {
			if !p.first[full-gone] || !p.second[full-gone] {
				return api.ErrNone
			}
		}
	}
	return api.OK
}

// hold: are all answers those of the words?
func hold(t *testing.T, q api.Quorum) {
	t.Helper()
	if err := quorum.Right(q); err != plainRight(q) {
		t.Fatalf("Right(%v): %d, not %d", q, err, plainRight(q))
	}
	if plainRight(q) != api.OK {
		holdNone(t, q)
		return
	}
	p := newPlain(q)
	for set := range uint32(len(p.first)) {
		if quorum.First(q, set) != p.first[set] || quorum.Second(q, set) != p.second[set] || quorum.Can(q, set) != (p.first[set] && p.second[set]) {
			t.Fatalf("%v: the set %b: %t, %t, %t", q, set, quorum.First(q, set), quorum.Second(q, set), quorum.Can(q, set))
		}
	}
	for _, second := range []bool{false, true} {
		if l := quorum.Least(q, second); !same(l, p.least(second)) {
			t.Fatalf("Least(%v, %t): %v, not %v", q, second, l, p.least(second))
		}
	}
	for more := -1; more <= q.Nodes+1; more++ {
		if err := quorum.Reach(q, more); err != p.reach(more) {
			t.Fatalf("Reach(%v, %d): %d, not %d", q, more, err, p.reach(more))
		}
	}
}

// holdNone: of a q that is not Right.
func holdNone(t *testing.T, q api.Quorum) {
	t.Helper()
	for _, set := range []uint32{0, 1, 0xfff, 0xffffffff} {
		if quorum.First(q, set) || quorum.Second(q, set) || quorum.Can(q, set) {
			t.Fatalf("%v is not Right, and %b is a quorum", q, set)
		}
	}
	if len(quorum.Least(q, false)) > 0 || len(quorum.Least(q, true)) > 0 {
		t.Fatalf("%v is not Right, and has quorums", q)
	}
	for _, more := range []int{-1, 0, 1} {
		if err := quorum.Reach(q, more); err != plainRight(q) {
			t.Fatalf("Reach(%v, %d): %d, not %d", q, more, err, plainRight(q))
		}
	}
}

// allCounts: of both kinds of counts, with all numbers around those that may be, and some far off.
func allCounts() []api.Quorum {
	l := []api.Quorum{}
	for kind := -1; kind <= 4; kind++ {
		for nodes := -1; nodes <= 13; nodes++ {
			numbers := []int{lowest, -nodes, -1, 0, 14, 1<<62 + 1, highest}
			for n := range nodes + 1 {
				numbers = append(numbers, n+1)
			}
			for _, one := range numbers {
				for _, two := range numbers {
					l = append(l, api.Quorum{Kind: kind, Nodes: nodes, One: one, Two: two})
				}
			}
		}
	}
	return l
}

// allSites: of four nodes at most, on these sites.
func allSites(among ...int) []api.Quorum {
	rows := [][]int{{}}
	var l []api.Quorum
	for len(rows) > 0 {
		row := rows[0]
		rows = rows[1:]
		l = append(l, sites(row...))
		if len(row) == 4 {
			continue
		}
		for _, site := range among {
			rows = append(rows, append(slices.Clone(row), site))
		}
	}
	return l
}

// drawnSites: of more nodes, on few sites or many.
func drawnSites(draw *rand.Rand, n int) []api.Quorum {
	var l []api.Quorum
	for range n {
		row := make([]int, 1+draw.Intn(12))
		for i, most := 0, 1+draw.Intn(12); i < len(row); i++ {
			row[i] = draw.Intn(most)
		}
		l = append(l, sites(row...))
	}
	return l
}

func TestCountsByTheWords(t *testing.T) {
	for _, q := range allCounts() {
		hold(t, q)
	}
}

func TestSitesByTheWords(t *testing.T) {
	for _, q := range allSites(-1, 0, 1, 7, 11, 12) {
		hold(t, q)
	}
	for _, q := range drawnSites(rand.New(rand.NewSource(8)), 60) {
		hold(t, q)
	}
}

// A list of sites of another length than Nodes.
func TestSitesOfAnotherLength(t *testing.T) {
	for nodes := -2; nodes <= 14; nodes++ {
		for n := range 15 {
			hold(t, api.Quorum{Kind: 3, Nodes: nodes, Sites: make([]int, n)})
		}
	}
}

// rights: those of the above that are Right.
func rights() []api.Quorum {
	l := slices.Concat(allCounts(), allSites(0, 1, 2, 11), drawnSites(rand.New(rand.NewSource(9)), 60))
	return slices.DeleteFunc(l, func(q api.Quorum) bool { return quorum.Right(q) != api.OK })
}

// Quorums of the two phases meet: where one has all its nodes, the rest is none of the other phase.
func TestQuorumsMeet(t *testing.T) {
	for _, q := range rights() {
		full := uint32(1)<<q.Nodes - 1
		for set := range full + 1 {
			if quorum.First(q, set) && quorum.Second(q, full-set) {
				t.Fatalf("%v: %b and %b do not meet", q, set, full-set)
			}
		}
		for _, one := range quorum.Least(q, false) {
			for _, two := range quorum.Least(q, true) {
				if one&two == 0 {
					t.Fatalf("%v: %b and %b of Least do not meet", q, one, two)
				}
			}
		}
	}
}

// With more nodes a quorum stays one; all nodes are one, and none is none.
func TestMoreNodesStayOne(t *testing.T) {
	for _, q := range rights() {
		full := uint32(1)<<q.Nodes - 1
		for set := range full + 1 {
			for node := range q.Nodes {
				more := set | 1<<node
				if quorum.First(q, set) && !quorum.First(q, more) || quorum.Second(q, set) && !quorum.Second(q, more) {
					t.Fatalf("%v: %b is a quorum, %b is none", q, set, more)
				}
			}
		}
		if !quorum.Can(q, full) || quorum.First(q, 0) || quorum.Second(q, 0) {
			t.Fatalf("%v: of all nodes, or of none", q)
		}
	}
}

// A set has a quorum in itself just if it has one of Least; how many may be gone falls never short of fewer.
func TestLeastAndReachAgree(t *testing.T) {
	for _, q := range rights() {
		for _, set := range []uint32{0, 1, 0x555, 0xaaa, 0x333, 0x0f0, 0x7ff, 0xfff, 0xb6d} {
			within := func(least uint32) bool { return set&least == least }
			if quorum.First(q, set) != slices.ContainsFunc(quorum.Least(q, false), within) {
				t.Fatalf("%v: First of %b, and Least", q, set)
			}
			if quorum.Second(q, set) != slices.ContainsFunc(quorum.Least(q, true), within) {
				t.Fatalf("%v: Second of %b, and Least", q, set)
			}
		}
		for more := range q.Nodes {
			if quorum.Reach(q, more+1) == api.OK && quorum.Reach(q, more) != api.OK {
				t.Fatalf("%v: %d may be gone, and not %d", q, more+1, more)
			}
		}
	}
}

// drawn: what bytes say: few numbers off those that may be.
func drawn(row []byte) api.Quorum {
	next := func(most int) int {
		if len(row) == 0 {
			return 1
		}
		n := int(row[0]) % (most + 1)
		row = row[1:]
		return n
	}
	q := api.Quorum{Kind: next(4), Nodes: next(13), One: next(14) - 1, Two: next(14) - 1}
	for range q.Nodes {
		q.Sites = append(q.Sites, next(12))
	}
	if len(row) > 0 {
		q.Sites = q.Sites[:next(len(q.Sites))]
	}
	return q
}

func FuzzQuorum(f *testing.F) {
	f.Add([]byte{1, 4, 4, 3})
	f.Add([]byte{2, 6, 3, 4})
	f.Add([]byte{3, 5, 0, 0, 11, 3, 11, 3, 0})
	f.Fuzz(func(t *testing.T, row []byte) {
		hold(t, drawn(row))
	})
}
